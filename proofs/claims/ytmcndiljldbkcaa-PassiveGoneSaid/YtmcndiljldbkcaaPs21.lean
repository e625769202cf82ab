/- Layer 38: no press activates grabs of two clients on one window; nothing of the walk. -/
import Derived.Test.YtmcndiljldbkcaaPs19
import Derived.Test.YtmcndiljldbkcaaPs20
import Derived.Test.YtmcndiljldbkcaaPs12d
namespace Go.Proofs.Ytmcndiljldbkcaa
open Go Go.RowKit
/-- No two of different clients cross. -/
def CF (gs : List G) : Prop := ∀ x ∈ gs, ∀ y ∈ gs, x.cl ≠ y.cl → meetG x y = false
theorem cf_nil : CF [] := fun x hx => by simp at hx
theorem meet_comm (x y : G) : meetG x y = meetG y x := by
  have h : ∀ a b c : Int, meetsB a b c = meetsB b a c := by
    intro a b c
    unfold meetsB
    rw [Bool.eq_iff_iff]
    simp only [Bool.or_eq_true, decide_eq_true_eq]
    omega
  unfold meetG
  rw [h x.co, h x.mo, show (x.bu == y.bu) = (y.bu == x.bu) by cases x.bu <;> cases y.bu <;> rfl, show decide (x.wi = y.wi) = decide (y.wi = x.wi) by rw [Bool.eq_iff_iff]; simp only [decide_eq_true_eq]; exact eq_comm]
theorem cf_with {gs hs : List G} {g : G} (h : CF gs) (hc : gs.any (conflB g) = false) (hs' : ∀ x ∈ hs, x ∈ gs ∨ x = g) : CF hs := by
  have hg : ∀ x ∈ gs, x.cl ≠ g.cl → meetG g x = false := by
    intro x hx hne
    have := List.any_eq_false.1 hc x hx
    unfold conflB at this
    have hd : decide (x.cl = g.cl) = false := decide_eq_false hne
    rw [hd] at this
    simpa using this
  intro x hx y hy hne
  rcases hs' x hx with h1 | rfl
  · rcases hs' y hy with h2 | rfl
    · exact h x h1 y h2 hne
    · rw [meet_comm]; exact hg x h1 hne
  · rcases hs' y hy with h2 | rfl
    · exact hg y h2 (Ne.symm hne)
    · exact absurd rfl hne
theorem cf_add (g : G) (gs : List G) (h : CF gs) : CF (addL g gs) := by
  unfold addL
  split
  · exact h
  split
  · exact h
  rename_i hc
  have hc' : gs.any (conflB g) = false := by simpa using hc
  split
  · exact cf_with h hc' fun x hx => by
      rcases List.mem_or_eq_of_mem_set hx with h1 | h1
      · exact Or.inl h1
      · exact Or.inr h1
  split
  · exact h
  · exact cf_with h hc' fun x hx => by
      rcases List.mem_append.1 hx with h1 | h1
      · exact Or.inl h1
      · exact Or.inr (by simpa using h1)
theorem act_meet (x y : G) (b : Bool) (c m : Int) (hw : x.wi = y.wi) (hx : ractB b c m x = true) (hy : ractB b c m y = true) : meetG x y = true := by
  unfold ractB at hx hy
  simp only [Bool.and_eq_true, Bool.or_eq_true, decide_eq_true_eq, beq_iff_eq] at hx hy
  obtain ⟨⟨x1, x2⟩, x3⟩ := hx
  obtain ⟨⟨y1, y2⟩, y3⟩ := hy
  unfold meetG meetsB
  simp only [Bool.and_eq_true, Bool.or_eq_true, decide_eq_true_eq, beq_iff_eq]
  exact ⟨⟨⟨hw, by rw [x1, y1]⟩, by omega⟩, by omega⟩
theorem act_split (id : Int) (b : Bool) (c m : Int) (x : G) : actB id b c m x = (decide (x.wi = id) && ractB b c m x) := by
  unfold actB ractB
  simp only [Bool.and_assoc]
/-- The one that Find tells is of the client whose grab is activated. -/
theorem find_cl {gs : List G} (h : CF gs) {x y : G} (hx : x ∈ gs) (hy : y ∈ gs) (b : Bool) (c m : Int) (ha : ractB b c m x = true) (hf : actB x.wi b c m y = true) : y.cl = x.cl ∧ y.wi = x.wi := by
  rw [act_split] at hf
  simp only [Bool.and_eq_true, decide_eq_true_eq] at hf
  refine ⟨Classical.byContradiction fun hne => ?_, hf.1⟩
  have h1 := act_meet y x b c m hf.1 hf.2 ha
  rw [h y hy x hx hne] at h1
  exact absurd h1 (by simp)
theorem act_any_of {gs : List G} {x : G} (hx : x ∈ gs) (b : Bool) (c m : Int) (ha : ractB b c m x = true) : gs.any (actB x.wi b c m) = true := by
  rw [List.any_eq_true]
  exact ⟨x, hx, by rw [act_split, ha]; simp⟩
end Go.Proofs.Ytmcndiljldbkcaa
