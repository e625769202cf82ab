/- Arguments whose cells are of known kinds: structs in structs; slices of such; nothing of any program. -/
import Derived.Test.YtgcedookbblibaaRow
import Derived.Deep.Slices
import Derived.ChangeSlices
import Derived.ProofKit
import Derived.OpenShut
namespace Go.Proofs.Ytgcedookbblibaa
open Go Go.RowKit Go.WideShapes Go.ChangeShapes Go.Joins
set_option linter.unusedSimpArgs false
set_option linter.unusedVariables false
/-- The kind of a cell. -/
inductive Kd where
  | int (k : IntKind)
  | bool
  | sl
def Kd.ok : Kd → Value → Prop
  | .int k, v => ∃ n : Int, v = .int k n ∧ (Lit.int k n).wf = true
  | .bool, v => ∃ b : Bool, v = .bool b
  | .sl, v => ∃ a l c, v = .slice a l c
def kindsF (g : TypeId → Option (List Kd)) : List Field → Nat → Option (List Kd)
  | [], _ => some []
  | f :: fs, o => if f.offset = o then (g f.type).bind fun ks => (kindsF g fs (o + ks.length)).map (ks ++ ·) else none
/-- The kinds of a type's cells. -/
def kinds (P : Program) : Nat → TypeId → Option (List Kd)
  | 0, _ => none
  | n + 1, t => match P.underlying t with
    | some (.int k) => some [.int k]
    | some .bool => some [.bool]
    | some (.slice _) => some [.sl]
    | some (.struct fs) => kindsF (kinds P n) fs.toList 0
    | _ => none
section
variable {H : Type} {enc : TypeId × Value → H} {P : Program} {w : World} {base : Nat} {spare : Nat → Bool} {held : Bool}
theorem kindsF_ok {g : TypeId → Option (List Kd)} {cs : List Value} : ∀ (l : List Field) (o : Nat) (ks : List Kd), kindsF g l o = some ks →
    (∀ f ∈ l, ∀ kf, g f.type = some kf → ∀ j k, kf[j]? = some k → ∃ v, cs[f.offset + j]? = some v ∧ k.ok v) → ∀ j k, ks[j]? = some k → ∃ v, cs[o + j]? = some v ∧ k.ok v
  | [], o, ks, h, _, j, k, hk => by
    simp [kindsF] at h; subst h; simp at hk
  | f :: fs, o, ks, h, hf, j, k, hk => by
    unfold kindsF at h
    split at h
    · rename_i ho
      cases hg : g f.type with
      | none => rw [hg] at h; simp at h
      | some kf =>
        rw [hg] at h
        simp only [Option.bind_some, Option.map_eq_some_iff] at h
        obtain ⟨kr, hr, rfl⟩ := h
        rcases Nat.lt_or_ge j kf.length with hj | hj
        · rw [List.getElem?_append_left hj] at hk
          rw [← ho]
          exact hf f (List.mem_cons_self) kf hg j k hk
        · rw [List.getElem?_append_right hj] at hk
          obtain ⟨v, hv, hok⟩ := kindsF_ok fs (o + kf.length) kr hr (fun f' hf' => hf f' (List.mem_cons_of_mem _ hf')) (j - kf.length) k hk
          rw [show o + kf.length + (j - kf.length) = o + j by omega] at hv
          exact ⟨v, hv, hok⟩
    · cases h
theorem kinds_trod : ∀ (n : Nat) (t : TypeId) (ks : List Kd), kinds P n t = some ks → ∀ (fuel : Nat) (cs : List Value) (y : DataW H × List MemPlace), DataW.trod enc P w base spare held fuel t cs = some y → ∀ (j : Nat) (k : Kd), ks[j]? = some k → ∃ v, cs[j]? = some v ∧ k.ok v
  | 0, _, _, h => by simp [kinds] at h
  | n + 1, t, ks, h => by
    intro fuel cs y ht j k hk
    unfold kinds at h
    split at h
    · rename_i kk hu
      simp only [Option.some.injEq] at h; subst h
      obtain ⟨m, rfl, _, hw⟩ := DataW.trod_int hu ht
      match j, hk with
      | 0, hk => simp at hk; subst hk; exact ⟨_, rfl, m, rfl, hw⟩
    · rename_i hu
      simp only [Option.some.injEq] at h; subst h
      obtain ⟨b, rfl, _⟩ := DataW.trod_bool hu ht
      match j, hk with
      | 0, hk => simp at hk; subst hk; exact ⟨_, rfl, b, rfl⟩
    · rename_i e hu
      simp only [Option.some.injEq] at h; subst h
      match j, hk with
      | 0, hk =>
        simp at hk; subst hk
        rcases DataW.trod_slice hu ht with ⟨rfl, _⟩ | ⟨a, len, cap, _, _, _, _, rfl, _⟩
        · exact ⟨_, rfl, none, 0, 0, rfl⟩
        · exact ⟨_, rfl, some a, len, cap, rfl⟩
    · rename_i fs hu
      obtain ⟨xs, m, _, _, hl, hxl, hf⟩ := DataW.trod_struct hu ht
      have key := kindsF_ok (cs := cs) fs.toList 0 ks h (fun f hfm kf hkf j k hk => by
        obtain ⟨i, hi, rfl⟩ := List.getElem_of_mem hfm
        have hi' : i < fs.size := by simpa using hi
        have h1 := hf i (fs.toList[i]) (by simp)
        have hxi : i < xs.length := by rw [hxl]; simpa using hi'
        obtain ⟨z, hz⟩ : ∃ z, DataW.trod enc P w base spare held m (fs.toList[i]).type ((cs.drop (fs.toList[i]).offset).take (P.cellsOf (fs.toList[i]).type)) = some z := ⟨_, by rw [h1]; exact List.getElem?_eq_getElem hxi⟩
        obtain ⟨v, hv, hok⟩ := kinds_trod n _ kf hkf _ _ _ hz j k hk
        refine ⟨v, ?_, hok⟩
        rw [List.getElem?_take] at hv
        split at hv
        · rwa [List.getElem?_drop] at hv
        · cases hv)
      obtain ⟨v, hv, hok⟩ := key j k hk
      exact ⟨v, by simpa using hv, hok⟩
    · cases h
theorem eq_of_cells {cs xs : List Value} (hl : cs.length = xs.length) (h : ∀ j, j < xs.length → cs[j]? = xs[j]?) : cs = xs := by
  apply List.ext_getElem?
  intro j
  rcases Nat.lt_or_ge j xs.length with hj | hj
  · exact h j hj
  · rw [List.getElem?_eq_none hj, List.getElem?_eq_none (by omega)]
/-- A slice of structs that came in. -/
theorem rows_of {α : Type} [Inhabited α] {f : α → List Value} {s : Nat} (hf : ∀ x, (f x).length = s) (hs : 0 < s) {Q : α → Prop} {t e : TypeId} {a : Option Addr} {len cap : Nat} {d : DataW H} {ps : List MemPlace} (ht : P.underlying t = some (.slice e)) (hc : P.cellsOf e = s)
    (rd : ∀ {fuel : Nat} {cs : List Value} {y : DataW H × List MemPlace}, DataW.trod enc P w 0 (fun _ => true) true fuel e cs = some y → ∃ x : α, cs = f x ∧ Q x)
    (h : DataW.Trod enc P w 0 (fun _ => true) true t (.slice a len cap) d ps) (hlt : ∀ x ∈ ps, x.block < w.heap.size) :
    ∃ (xs : List α) (b o : Nat), xs.length = len ∧ RowV (.slice a len cap) len b o ∧ (cellsR f xs ≠ [] → b < w.heap.size ∧ w.rangeAt b o (cellsR f xs)) ∧ ∀ x ∈ xs, Q x := by
  obtain ⟨fuel, hf0⟩ := h
  rcases Deep.open_slice ht hf0 with ⟨hcs, hx⟩ | ⟨ad, len', cap', m, n, D, Pl, hcs, hb, hl, hm, hmm, hx, hel⟩
  · simp [Value.cells] at hcs
    obtain ⟨rfl, rfl, rfl⟩ := hcs
    exact ⟨[], 0, 0, rfl, rowV_nil, fun h => absurd rfl h, by simp⟩
  · simp [Value.cells] at hcs
    obtain ⟨rfl, rfl, rfl⟩ := hcs
    simp only [if_true] at hmm
    have hmm' := hmm.symm
    subst hmm'
    simp only [Prod.mk.injEq] at hx
    obtain ⟨rfl, rfl⟩ := hx
    obtain ⟨b, off, spot⟩ := ad
    have each : ∀ i, i < len → ∃ q : α, (∀ j, j < s → w.cell? (((⟨b, off, spot⟩ : Addr).add (i * s)).add j) = (f q)[j]?) ∧ Q q := by
      intro i hil
      obtain ⟨cs', h1, h2⟩ := hel i (by omega)
      rw [hc] at h1
      obtain ⟨_, hlen, hcell⟩ := World.cells?_some h1
      obtain ⟨x, rfl, hQ⟩ := rd h2
      exact ⟨x, hcell, hQ⟩
    obtain ⟨q, hq⟩ := Deep.choose_lt each
    by_cases hl0 : len = 0
    · subst hl0
      exact ⟨[], 0, 0, rfl, ⟨_, _, rfl, Nat.zero_le _, hm, fun h => by omega⟩, fun h => absurd rfl h, by simp⟩
    · have hspot : spot = none := by
        have h0 := (hq 0 (by omega)).1 0 hs
        have h1 : 0 < (f (q 0)).length := by rw [hf]; exact hs
        have := World.cell?_spot (h0.trans (List.getElem?_eq_getElem h1))
        simpa [Addr.add] using this
      subst hspot
      have hbW : b < w.heap.size := hlt (.cell b off) (by
        rw [hc]
        exact List.mem_append_left _ (MemPlace.mem_row.2 ⟨0, Nat.mul_pos (by omega) hs, by simp⟩))
      have hlx : ((List.range len).map q).length = len := by simp
      refine ⟨(List.range len).map q, b, off, hlx, ⟨_, cap, rfl, hl, hm, fun _ => rfl⟩, fun _ => ⟨hbW, fun j v hj => ?_⟩, ?_⟩
      · have hjl : j < len * s := by
          have := (List.getElem?_eq_some_iff.1 hj).1
          rwa [cellsR_len hf, hlx] at this
        have hk : j / s < len := Nat.div_lt_of_lt_mul (by rwa [Nat.mul_comm] at hjl)
        have hjs : j % s < s := Nat.mod_lt _ hs
        have hxk : ((List.range len).map q)[j / s]? = some (q (j / s)) := by simp [List.getElem?_map, List.getElem?_range hk]
        have h1 := cellsR_at hf _ (j / s) (q (j / s)) hxk (j % s) hjs
        rw [show j / s * s + j % s = j by rw [Nat.mul_comm]; exact Nat.div_add_mod _ _, hj] at h1
        have := (hq (j / s) hk).1 (j % s) hjs
        rw [← h1, Deep.add_add, show j / s * s + j % s = j by rw [Nat.mul_comm]; exact Nat.div_add_mod _ _, show (⟨b, off, none⟩ : Addr).add j = ⟨b, off + j, none⟩ by unfold Addr.add; split <;> simp_all] at this
        exact this
      · intro x hx
        obtain ⟨i, hi, rfl⟩ := List.mem_map.1 hx
        exact (hq i (by simpa using hi)).2
end
end Go.Proofs.Ytgcedookbblibaa
