/- Layer 42: the two takes, side by side. -/
import Derived.Test.YtlaejolgjchfcaaPc23b
namespace Go.Proofs.Ytlaejolgjchfcaa
open Go Go.RowKit Go.Maps
set_option linter.unusedSimpArgs false
set_option linter.unusedVariables false
theorem rgot_any (s tt : Int) (ka : Option Addr) (kn kc : Nat) (us : List Int) (a : Bool) (t : Int) (pa : Option Addr) (pn pc : Nat) (l : Bool) (ds : List Int) (w : World) (hk : IsI w (.slice ka kn kc) us) (hkn : us.length = kn) (hkno : ka = none → kc = 0) (hp : IsI w (.slice pa pn pc) ds) (hpn : ds.length = pn) (hpno : pa = none → pc = 0) (h1 : kn ≤ 100000) (h2 : pn ≤ 100000) :
    Calls Try.prog 20 #[tV s tt (.slice ka kn kc), pV a t (.slice pa pn pc) l] w (RefIs (.slice ka kn kc) us (.slice pa pn pc) ds (refF (kindZ a t ds.length l (numsB ds)) s tt us t ds) w) := by
  unfold refF
  by_cases h0 : kindZ a t ds.length l (numsB ds) < 0
  · rw [if_pos h0]
    exact rgot_form s tt ka kn kc us a t pa pn pc l ds w hk hkn hkno hp hpn hpno h1 h2 _ rfl h0
  rw [if_neg h0]
  by_cases hs1 : 1 < s
  · rw [if_pos hs1]
    exact rgot_state s tt ka kn kc us a t pa pn pc l ds w hk hkn hkno hp hpn hpno h1 h2 _ rfl h0 hs1
  rw [if_neg hs1]
  by_cases ho : (1 < kindZ a t ds.length l (numsB ds) ∧ s ≠ 1) ∨ (¬ 1 < kindZ a t ds.length l (numsB ds) ∧ s = 1)
  · rw [if_pos ho]
    rcases ho with ⟨hz, hs⟩ | ⟨hz, hs⟩
    · exact rgot_order1 s tt ka kn kc us a t pa pn pc l ds w hk hkn hkno hp hpn hpno h1 h2 _ rfl hz hs1 hs
    · subst hs
      exact rgot_order2 1 tt ka kn kc us a t pa pn pc l ds w hk hkn hkno hp hpn hpno h1 h2 _ rfl h0 hz rfl
  rw [if_neg ho]
  have h3 := (kind_ab (show 0 ≤ kindZ a t ds.length l (numsB ds) by omega)).2.2
  rcases (by omega : kindZ a t ds.length l (numsB ds) = 0 ∨ kindZ a t ds.length l (numsB ds) = 1 ∨ kindZ a t ds.length l (numsB ds) = 2 ∨ kindZ a t ds.length l (numsB ds) = 3) with h | h | h | h
  · rw [if_pos h]
    exact rgot_whole s tt ka kn kc us a t pa pn pc l ds w hk hkn hkno hp hpn hpno h1 h2 h hs1 (by intro hs; exact ho (Or.inr ⟨by omega, hs⟩))
  · rw [if_neg (by omega), if_pos h]
    exact rgot_announced s tt ka kn kc us a t pa pn pc l ds w hk hkn hkno hp hpn hpno h1 h2 h hs1 (by intro hs; exact ho (Or.inr ⟨by omega, hs⟩))
  · rw [if_neg (by omega), if_neg (by omega), if_pos h]
    have hs : s = 1 := Classical.byContradiction fun hs => ho (Or.inl ⟨by omega, hs⟩)
    subst hs
    by_cases hl : tt < (us.length : Int) + ds.length
    · rw [if_pos hl]
      exact rgot_long 1 tt ka kn kc us a t pa pn pc l ds w hk hkn hkno hp hpn hpno h1 h2 h rfl (by rw [← hkn, ← hpn]; exact hl)
    · rw [if_neg hl]
      exact rgot_part 1 tt ka kn kc us a t pa pn pc l ds w hk hkn hkno hp hpn hpno h1 h2 h rfl (by have := kind_two h; omega) (by rw [← hkn, ← hpn]; exact hl)
  · rw [if_neg (by omega), if_neg (by omega), if_neg (by omega)]
    have hs : s = 1 := Classical.byContradiction fun hs => ho (Or.inl ⟨by omega, hs⟩)
    subst hs
    by_cases hl : (us.length : Int) < tt
    · rw [if_pos hl]
      exact rgot_short 1 tt ka kn kc us a t pa pn pc l ds w hk hkn hkno hp hpn hpno h1 h2 h rfl (by rw [← hkn]; exact hl)
    · rw [if_neg hl]
      exact rgot_end 1 tt ka kn kc us a t pa pn pc l ds w hk hkn hkno hp hpn hpno h1 h2 h rfl (by rw [← hkn]; exact hl)
/-- The two totals tell one, while the take gathers. -/
def TotIs (s t1 t2 : Int) : Prop := (s = 0 ∨ s = 1 ∨ s = 2 ∨ s = 3) ∧ (s = 1 → t1 = t2)
theorem side_by_side {Z s t1 t2 t : Int} {us ds : List Int} (hZ : Z ≤ 3) (hs : TotIs s t1 t2) :
    (gotF Z s t1 us t ds).1 = (refF Z s t2 us t ds).1 ∧ (gotF Z s t1 us t ds).2.1 = (refF Z s t2 us t ds).2.1 ∧ (gotF Z s t1 us t ds).2.2.2 = (refF Z s t2 us t ds).2.2.2 ∧ TotIs (gotF Z s t1 us t ds).2.1 (gotF Z s t1 us t ds).2.2.1 (refF Z s t2 us t ds).2.2.1 := by
  obtain ⟨h0, h1⟩ := hs
  unfold gotF refF
  by_cases hz : Z < 0
  · rw [if_pos hz, if_pos hz]
    exact ⟨rfl, rfl, rfl, h0, h1⟩
  rw [if_neg hz, if_neg hz]
  by_cases h23 : s = 2 ∨ s = 3
  · rw [if_pos h23, if_pos (by omega)]
    exact ⟨rfl, rfl, rfl, h0, h1⟩
  rw [if_neg h23, if_neg (by omega)]
  unfold waysF
  rcases (by omega : s = 0 ∨ s = 1) with rfl | rfl
  · rcases (by omega : Z = 0 ∨ Z = 1 ∨ 1 < Z) with rfl | rfl | hz1
    · simp [TotIs]
    · simp [TotIs]
    · rw [if_neg (by omega), if_neg (by omega), if_pos (Or.inl ⟨hz1, by omega⟩)]
      by_cases h2 : Z = 2
      · rw [if_pos h2]; simp [TotIs]
      · rw [if_neg h2]; simp [TotIs]
  · obtain rfl := h1 rfl
    rcases (by omega : Z = 0 ∨ Z = 1 ∨ Z = 2 ∨ Z = 3) with rfl | rfl | rfl | rfl
    · simp [TotIs]
    · simp [TotIs]
    · by_cases hl : t1 < (us.length : Int) + ds.length
      · simp [TotIs, hl]
      · simp [TotIs, hl]
    · by_cases hl : (us.length : Int) < t1
      · simp [TotIs, hl]
      · simp [TotIs, hl]
theorem gotF_len (Z s tt : Int) (us : List Int) (t : Int) (ds : List Int) (N : Nat) (h1 : us.length ≤ N) (h2 : ds.length ≤ 200) : (gotF Z s tt us t ds).2.2.2.length ≤ N + 200 := by
  unfold gotF waysF
  repeat' split
  all_goals simp <;> omega
end Go.Proofs.Ytlaejolgjchfcaa
