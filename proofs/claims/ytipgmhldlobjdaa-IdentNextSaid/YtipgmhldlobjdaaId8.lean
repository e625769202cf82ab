/- Layer 7: the least free id is there; lists that are the call's own. -/
import Derived.Test.YtipgmhldlobjdaaId7
import Derived.Test.YtipgmhldlobjdaaId4
import Derived.Test.YtipgmhldlobjdaaInts2
namespace Go.Proofs.Ytipgmhldlobjdaa
open Go Go.RowKit Go.Maps
set_option linter.unusedSimpArgs false
set_option linter.unusedVariables false

theorem covers : ∀ (n : Nat) (base : Int) (us : List Int), (∀ x, base < x → x ≤ base + n → x ∈ us) → n ≤ us.length
  | 0, _, _, _ => Nat.zero_le _
  | n + 1, base, us, h => by
    have hm : base + (n + 1 : Nat) ∈ us := h _ (by omega) (by omega)
    have ih := covers n base (us.erase (base + (n + 1 : Nat))) fun x h1 h2 => by
      have hx := h x h1 (by omega)
      exact (List.mem_erase_of_ne (by omega)).2 hx
    have hl := List.length_erase_of_mem hm
    have := List.length_pos_of_mem hm
    omega
theorem least_or (base : Int) (us : List Int) : ∀ n : Nat, n < 1048576 → (∀ x, base < x → x ≤ base + n → x ∈ us) ∨ ∃ g, Least base us g
  | 0, _ => .inl fun x h1 h2 => by omega
  | n + 1, hn => by
    rcases least_or base us n (by omega) with h | h
    · by_cases hm : base + (n + 1 : Nat) ∈ us
      · refine .inl fun x h1 h2 => ?_
        by_cases e : x = base + (n + 1 : Nat)
        · rw [e]; exact hm
        · exact h x h1 (by omega)
      · exact .inr ⟨base + (n + 1 : Nat), by omega, by omega, hm, fun x h1 h2 => h x h1 (by omega)⟩
    · exact .inr h
theorem least_ex (base : Int) (us : List Int) (h : us.length ≤ 1000) : ∃ g, Least base us g := by
  rcases least_or base us 1001 (by omega) with h1 | h1
  · have := covers 1001 base us h1
    omega
  · exact h1
theorem own_below {w w' : World} {B n : Nat} {e : TypeId} {v : Value} {xs : List Value} (h : w.ownsRow B e 1 v n xs) (hb : Below w.heap.size w w') : w'.ownsRow B e 1 v n xs := by
  obtain ⟨h0, hcase⟩ := h
  refine ⟨h0, ?_⟩
  rcases hcase with h1 | ⟨g, cap, cur, hv, hg, hh, hr⟩
  · exact .inl h1
  · exact .inr ⟨g, cap, cur, hv, hg, (hb.block g (Array.getElem?_eq_some_iff.1 hh).1).trans hh, hr⟩
theorem own_form {w : World} {B n : Nat} {e : TypeId} {v : Value} {xs : List Value} (h : w.ownsRow B e 1 v n xs) (hv : ¬ v = .slice none 0 0) : ∃ g cap, v = .slice (some ⟨g, 0, none⟩) n cap := by
  obtain ⟨h0, hcase⟩ := h
  rcases hcase with h1 | ⟨g, cap, cur, hv', _⟩
  · exact absurd h1.1 hv
  · exact ⟨g, cap, hv'⟩
theorem own_at {w : World} {B g cap : Nat} {e : TypeId} {us : List Int} (h : w.ownsRow B e 1 (.slice (some ⟨g, 0, none⟩) us.length cap) us.length (us.map u3)) (k : Nat) (hk : k < us.length) : w.cell? ⟨g, k, none⟩ = some (u3 (us.getD k 0)) := by
  rw [h.cellAt k (by simpa using hk)]
  simp [List.getD, List.getElem?_eq_getElem hk]

/-- Of a list those that are a client's, or all. -/
def gather (c d : Int) (us : List Int) : List Int := us.filter fun x => mineB c x || decide (d = c)
theorem gather_take (c d : Int) (us : List Int) (k : Nat) (hk : k < us.length) : gather c d (us.take (k + 1)) = gather c d (us.take k) ++ (if (mineB c (us.getD k 0) || decide (d = c)) = true then [us.getD k 0] else []) := by
  unfold gather
  rw [List.take_add_one, List.getElem?_eq_getElem hk, List.filter_append, List.getD_eq_getElem?_getD, List.getElem?_eq_getElem hk]
  congr 1
  simp only [Option.toList_some, Option.getD_some, List.filter_cons, List.filter_nil]
theorem gather_len (c d : Int) (us : List Int) : (gather c d us).length ≤ us.length := List.length_filter_le _ _
theorem gather_sub {c d : Int} {us : List Int} {x : Int} (h : x ∈ gather c d us) : x ∈ us := (List.mem_filter.1 h).1
theorem gather_least {c d : Int} {us : List Int} {g : Int} (h1 : 1 ≤ c) (h2 : c ≤ 8) (h : Least (c * 1048576) us g) : Least (c * 1048576) (gather c d us) g := by
  refine ⟨h.1, h.2.1, fun hm => h.2.2.1 (gather_sub hm), fun x hx1 hx2 => ?_⟩
  unfold gather
  rw [List.mem_filter]
  refine ⟨h.2.2.2 x hx1 hx2, ?_⟩
  have hw := whose_in (c := c) (r := x - c * 1048576) h1 h2 (by omega) (by have := h.2.1; omega)
  rw [show c * 1048576 + (x - c * 1048576) = x by omega] at hw
  have : mineB c x = true := decide_eq_true (by omega)
  rw [this]
  rfl
end Go.Proofs.Ytipgmhldlobjdaa
