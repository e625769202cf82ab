/- Layer 9: names and atoms, one for one: theory. -/
import Derived.Test.YtdkdpjlkjamemaaDoorAtom14
namespace Go.Proofs.YtdkdpjlkjamemaaDoor
open Go Go.RowKit Go.Maps
set_option linter.unusedSimpArgs false
set_option linter.unusedVariables false
/-- The atom of a name in a table; 0 of what is no name. -/
def atomL (more : List B) (s : B) : Nat := if nameB s then numT more s else 0
theorem numT_le (more : List B) (s : B) : numT more s ≤ 10 + more.length := by
  have := findL_le (knownL ++ more) s
  rw [List.length_append] at this
  exact this
theorem atomL_le (more : List B) (s : B) : atomL more s ≤ 10 + more.length := by
  unfold atomL
  split
  · exact numT_le _ _
  · omega
theorem internL_name (more : List B) (s : B) (hn : nameB s = true) (hl : more.length ≤ 1000) :
    (internL more s false).2.1 = (atomL (internL more s false).1 s : Int) ∧ (internL more s false).2.2 = 0 ∧ atomL (internL more s false).1 s ≠ 0 := by
  unfold atomL internL
  rw [if_neg (by simp [hn]), if_pos hn]
  by_cases h0 : numT more s ≠ 0
  · simp only [if_pos h0]; exact ⟨trivial, trivial, h0⟩
  · simp only [if_neg h0]
    rw [if_neg (by decide), if_neg (by omega)]
    have hz : findL (knownL ++ more) s = 0 := by simpa [numT] using h0
    have hz2 : numT (more ++ [s]) s = 11 + more.length := by
      unfold numT
      rw [← List.append_assoc, findL_app, if_neg (by simp [hz])]
      have h10 : (knownL ++ more).length = 10 + more.length := by rw [List.length_append]; rfl
      simp [findL, h10]
      omega
    dsimp only
    rw [hz2]
    exact ⟨rfl, rfl, by omega⟩
theorem internL_noname (more : List B) (s : B) (hn : nameB s = false) : internL more s false = (more, 0, 11) := by
  unfold internL; rw [if_pos hn]
/-- What is there keeps its atom. -/
theorem atomL_stays (more : List B) (x s : B) (h : nameB s = true → atomL more s ≠ 0) : atomL (internL more x false).1 s = atomL more s := by
  unfold atomL at h ⊢
  by_cases hn : nameB s = true
  · simp only [hn, if_true] at h ⊢
    exact internL_stays more x s false (h trivial)
  · simp only [hn]; rfl
/-- The atoms of the first k names, and noughts. -/
def vsL (more : List B) (ss : List B) (k : Nat) : List Value := (ss.take k).map (fun s => u3 (atomL more s)) ++ List.replicate (ss.length - k) (u3 0)
theorem vsL_len (more ss : List B) (k : Nat) (h : k ≤ ss.length) : (vsL more ss k).length = ss.length := by
  unfold vsL; simp; omega
theorem vsL_at (more ss : List B) (k : Nat) (h : k < ss.length) : (vsL more ss k)[k]? = some (u3 0) := by
  unfold vsL
  rw [List.getElem?_append_right (by simp; omega)]
  simp only [List.length_map, List.length_take]
  rw [List.getElem?_replicate, if_pos (by omega)]
theorem vsL_all (more ss : List B) (i : Nat) (s : B) (h : ss[i]? = some s) : (vsL more ss ss.length)[i]? = some (u3 (atomL more s)) := by
  unfold vsL
  have hl := (List.getElem?_eq_some_iff.1 h).1
  rw [List.take_length, Nat.sub_self, List.replicate_zero, List.append_nil, List.getElem?_map, h]
  rfl
/-- All names of the first k that are names have atoms. -/
def KnowsL (more : List B) (ss : List B) (k : Nat) : Prop := ∀ s ∈ ss.take k, nameB s = true → atomL more s ≠ 0
theorem vsL_congr (more more' ss : List B) (k : Nat) (h : ∀ s ∈ ss.take k, atomL more' s = atomL more s) : vsL more' ss k = vsL more ss k := by
  unfold vsL
  congr 1
  exact List.map_congr_left fun s hs => by rw [h s hs]
theorem vsL_put (more ss : List B) (k : Nat) (s : B) (hk : ss[k]? = some s) : vsL more ss (k + 1) = (vsL more ss k).set k (u3 (atomL more s)) := by
  have hl := (List.getElem?_eq_some_iff.1 hk).1
  unfold vsL
  rw [List.take_add_one, hk, List.set_append_right _ _ (by simp; omega)]
  simp only [List.length_map, List.length_take, Option.toList, List.map_append, List.map_cons, List.map_nil, List.append_assoc]
  congr 1
  rw [show k - min k ss.length = 0 by omega]
  obtain ⟨n, hn⟩ : ∃ n, ss.length - k = n + 1 := ⟨ss.length - k - 1, by omega⟩
  rw [hn, show ss.length - (k + 1) = n by omega, List.replicate_succ, List.set_cons_zero]
  rfl
theorem vsL_no (more ss : List B) (k : Nat) (s : B) (hk : ss[k]? = some s) (h0 : atomL more s = 0) : vsL more ss (k + 1) = vsL more ss k := by
  rw [vsL_put more ss k s hk, h0]
  apply List.ext_getElem?
  intro i
  by_cases hi : k = i
  · subst hi
    have hl := (List.getElem?_eq_some_iff.1 hk).1
    rw [List.getElem?_set_self (by rw [vsL_len _ _ _ (by omega)]; exact hl), vsL_at _ _ _ hl]
    rfl
  · rw [List.getElem?_set_ne hi]
theorem knows_step (more ss : List B) (k : Nat) (s : B) (hk : ss[k]? = some s) (hl : more.length ≤ 1000) (h : KnowsL more ss k) : KnowsL (internL more s false).1 ss (k + 1) := by
  intro x hx hn
  rw [List.take_add_one, hk] at hx
  rcases List.mem_append.1 hx with hx | hx
  · rw [atomL_stays _ _ _ (fun _ => h x hx hn)]; exact h x hx hn
  · simp at hx; subst hx
    exact (internL_name more x hn hl).2.2
theorem vs_step (more ss : List B) (k : Nat) (s : B) (hk : ss[k]? = some s) (hl : more.length ≤ 1000) (h : KnowsL more ss k) :
    vsL (internL more s false).1 ss (k + 1) = if (internL more s false).2.2 = 0 then (vsL more ss k).set k (u3 (internL more s false).2.1) else vsL more ss k := by
  have hc : vsL (internL more s false).1 ss k = vsL more ss k := vsL_congr _ _ _ _ fun x hx => atomL_stays _ _ _ (fun hn => h x hx hn)
  by_cases hn : nameB s = true
  · obtain ⟨h1, h2, h3⟩ := internL_name more s hn hl
    rw [if_pos h2, h1, ← hc, ← vsL_put _ _ _ _ hk]
  · have hn' : nameB s = false := by simpa using hn
    have he := internL_noname more s hn'
    rw [if_neg (by rw [he]; show ¬ (11 : Int) = 0; decide), ← hc]
    exact vsL_no _ _ _ _ hk (by unfold atomL; rw [hn']; rfl)
/-- Atoms and names, one for one. -/
theorem atomL_inj (more : List B) (s x : B) (h : atomL more s ≠ 0) : (atomL more s = atomL more x) ↔ s = x := by
  constructor
  · intro he
    have hx : atomL more x ≠ 0 := by rw [← he]; exact h
    unfold atomL at h hx he
    by_cases hs : nameB s = true
    · by_cases hxn : nameB x = true
      · simp only [hs, hxn, if_true] at h hx he
        have h1 := findL_get _ _ (show findL (knownL ++ more) s ≠ 0 from h)
        have h2 := findL_get _ _ (show findL (knownL ++ more) x ≠ 0 from hx)
        unfold numT at he
        rw [he, h2] at h1
        exact (Option.some.inj h1).symm
      · rw [if_neg hxn] at hx; exact absurd rfl hx
    · rw [if_neg hs] at h; exact absurd rfl h
  · rintro rfl; rfl
theorem nameL_atom (more : List B) (s : B) (h : atomL more s ≠ 0) : nameL (knownL ++ more) (atomL more s) = (s, true) := by
  unfold atomL at h ⊢
  by_cases hs : nameB s = true
  · simp only [hs, if_true] at h ⊢
    have h1 := findL_get _ _ (show findL (knownL ++ more) s ≠ 0 from h)
    have h2 := findL_le (knownL ++ more) s
    unfold nameL numT at *
    rw [if_pos ⟨by omega, by omega⟩, Int.toNat_natCast, List.getD_eq_getElem?_getD, h1]
    rfl
  · rw [if_neg hs] at h; exact absurd rfl h
theorem nameL_zero (l : List B) : nameL l 0 = ([], false) := by unfold nameL; rw [if_neg (by omega)]
theorem foldI_len40 (ss : List B) (k : Nat) (h : ss.length ≤ 40) : (foldI [] (ss.take k)).length ≤ 40 := by
  have := foldI_len (ss.take k) []
  simp only [List.length_nil, Nat.zero_add, List.length_take] at this
  omega
end Go.Proofs.YtdkdpjlkjamemaaDoor
