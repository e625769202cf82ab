/- Layer 38: which grab a press activates along a path: theory. -/
import Derived.Test.YtmcndiljldbkcaaPsM5
import Derived.Test.YtmcndiljldbkcaaPs10
namespace Go.Proofs.Ytmcndiljldbkcaa
open Go Go.RowKit
set_option linter.unusedSimpArgs false
set_option linter.unusedVariables false
/-- The first grab that a press activates, window by window. -/
def foundL (b : Bool) (c m : Int) (gs : List G) : List Int → Option G
  | [] => none
  | id :: is => match gs.find? (actB id b c m) with
    | some g => some g
    | none => foundL b c m gs is
/-- What Find tells. -/
def findR (b : Bool) (c m : Int) (is : List Int) (gs : List G) : Option G := if c < 1 ∨ mostC b < c then none else foundL b c m gs is
abbrev zeroGr : G := ⟨0, 0, false, 0, 0, false, 0, 0, 0⟩
def FoundIs (b : Bool) (c m : Int) (is : List Int) (gs : List G) (x : G) (o : Bool) : Prop := findR b c m is gs = (if o = true then some x else none) ∧ (o = false → x = zeroGr)
theorem found_same {b : Bool} {c m : Int} {is : List Int} {gs : List G} {x y : G} {o p : Bool} (h : FoundIs b c m is gs x o) (k : FoundIs b c m is gs y p) : o = p ∧ x = y := by
  have e := h.1.symm.trans k.1
  cases o <;> cases p
  · exact ⟨rfl, (h.2 rfl).trans (k.2 rfl).symm⟩
  · simp at e
  · simp at e
  · simp at e; exact ⟨rfl, e⟩
/-- Behind k windows none is found. -/
def NoneUp (b : Bool) (c m : Int) (gs : List G) (is : List Int) (k : Nat) : Prop := foundL b c m gs is = foundL b c m gs (is.drop k)
theorem noneUp_zero (b : Bool) (c m : Int) (gs : List G) (is : List Int) : NoneUp b c m gs is 0 := by unfold NoneUp; simp
theorem noneUp_step {b : Bool} {c m : Int} {gs : List G} {is : List Int} {k : Nat} (h : NoneUp b c m gs is k) {id : Int} (hk : is[k]? = some id) (hn : ∀ x ∈ gs, actB id b c m x = false) : NoneUp b c m gs is (k + 1) := by
  unfold NoneUp at h ⊢
  rw [h]
  obtain ⟨hl, he⟩ := List.getElem?_eq_some_iff.1 hk
  rw [List.drop_eq_getElem_cons hl, he, foundL]
  have : gs.find? (actB id b c m) = none := by rw [List.find?_eq_none]; intro x hx; rw [hn x hx]; simp
  rw [this]
theorem noneUp_end {b : Bool} {c m : Int} {gs : List G} {is : List Int} {k : Nat} (h : NoneUp b c m gs is k) (hk : is.length ≤ k) : foundL b c m gs is = none := by
  rw [h, List.drop_of_length_le hk, foundL]
theorem noneUp_hit {b : Bool} {c m : Int} {gs : List G} {is : List Int} {k : Nat} (h : NoneUp b c m gs is k) {id : Int} (hk : is[k]? = some id) {j : Nat} {x : G} (hj : gs[j]? = some x) (hp : actB id b c m x = true) (hf : ∀ (i : Nat) (y : G), i < j → gs[i]? = some y → actB id b c m y = false) : foundL b c m gs is = some x := by
  rw [h]
  obtain ⟨hl, he⟩ := List.getElem?_eq_some_iff.1 hk
  rw [List.drop_eq_getElem_cons hl, he, foundL]
  have : gs.find? (actB id b c m) = some x := by
    obtain ⟨hl2, he2⟩ := List.getElem?_eq_some_iff.1 hj
    rw [List.find?_eq_some_iff_getElem]
    exact ⟨hp, j, hl2, he2, fun i hi => by rw [hf i _ hi (List.getElem?_eq_getElem (by omega))]; simp⟩
  rw [this]
theorem findR_out {b : Bool} {c m : Int} {is : List Int} {gs : List G} (h : c < 1 ∨ mostC b < c) : findR b c m is gs = none := by unfold findR; rw [if_pos h]
theorem findR_in {b : Bool} {c m : Int} {is : List Int} {gs : List G} (h1 : 1 ≤ c) (h2 : c ≤ mostC b) : findR b c m is gs = foundL b c m gs is := by unfold findR; rw [if_neg (by omega)]
/-- What leaves once leaves all: a second leaving takes none. -/
theorem left_left (p : G → Bool) (gs : List G) : leftL p (leftL p gs) = leftL p gs := by
  unfold leftL
  rw [List.filter_filter]
  simp
end Go.Proofs.Ytmcndiljldbkcaa
