/- Layer 38: Add of any grab. -/
import Derived.Test.YtmcndiljldbkcaaPs18e
import Derived.Test.YtmcndiljldbkcaaPs15
import Derived.Test.YtmcndiljldbkcaaPs16
namespace Go.Proofs.Ytmcndiljldbkcaa
open Go Go.RowKit
set_option linter.unusedSimpArgs false
set_option linter.unusedVariables false
set_option maxRecDepth 100000 in
set_option maxHeartbeats 8000000 in
theorem add_bad (g : G) (N : Int) (hN : chkN g = N) (h0 : N ≠ 0) (v : Value) (gs : List G) (w : World) (hv : TabG w v gs) :
    Calls Try.prog 21 #[.agg #[v], gV g] w fun e w' => e = .returned (.tuple #[.agg #[v], i6 N]) ∧ Below w.heap.size w w' := by
  obtain ⟨A, cap, rfl, _⟩ := hv.is
  have hq := fun W => check_any g W
  rw [hN] at hq
  have HCK := Lib.hid hq
  clear hv hq hN
  have hn : (N != 0) = true := by simpa using h0
  obtain ⟨n, hn'⟩ : ∃ n, gs.length = n := ⟨_, rfl⟩
  rw [hn']
  clear hn'
  go_enter Try.func21, Try.ntmps21
  go_wp2_with fail
  refine calls_world (fun W => Below w.heap.size w W ∧ Blk W w.heap.size [.slice A n cap] ∧ Blk W (w.heap.size + 1) (gL g) ∧ Blk W (w.heap.size + 1 + 1) [.slice none 0 0]) ⟨by (repeat' (first | with_reducible exact Below.refl _ _ | with_reducible assumption | with_reducible refine q_alloc ?_ _ | with_reducible refine q_drew ?_ | with_reducible refine q_drewN _ ?_ | with_reducible refine q_setCell ?_ ?_ _ | (left; simp; done) | (right; simp; done) | (right; dsimp only; omega) | (left; dsimp only; omega))), ((Blk.new rfl).alloc _).alloc _, (blk_new1 rfl).alloc _, blk_new2 rfl⟩ ?_
  intro W1 ⟨hq1, b1, b2, b3⟩
  refine (HCK.out _).mono ?_
  rintro e w2 ⟨rfl, hb⟩
  have hq3 := q_step hq1 hb
  have c1 := b1.below hb
  have c3 := b3.below hb
  have d0 := c1.cell 0 rfl
  have e0 := c3.cell 0 rfl
  have f0 := c3.froz 0 rfl
  have hlt := c3.lt
  clear b1 b2 b3 hq1 hb c1 HCK
  go_wp2_with fail
  refine body_world (fun W => Below w.heap.size w W ∧ Blk W (w.heap.size + 1 + 1) [.slice A n cap]) ⟨by (repeat' (first | with_reducible exact Below.refl _ _ | with_reducible assumption | with_reducible refine q_alloc ?_ _ | with_reducible refine q_drew ?_ | with_reducible refine q_drewN _ ?_ | with_reducible refine q_setCell ?_ ?_ _ | (left; simp; done) | (right; simp; done) | (right; dsimp only; omega) | (left; dsimp only; omega))), c3.set 0 _ (by simp) rfl⟩ ?_
  intro W9 ⟨hq9, b9⟩
  clear d0 e0 f0 c3
  have d0 := b9.cell 0 rfl
  exact bodyPost_ret (v := .tuple #[.agg #[.slice A n cap], i6 N]) (by simp [results, Try.results21, go_sem, d0]) rfl ⟨rfl, hq9⟩
/-- The error's number, and the grabs behind it, when a grab is added. -/
def addE (g : G) (gs : List G) : Int :=
  if chkN g ≠ 0 then chkN g else if gs.any (conflB g) = true then 15 else if gs.any (likeB g) = true then 0 else if 256 ≤ gs.length then 12 else 0
def addL (g : G) (gs : List G) : List G :=
  if chkN g ≠ 0 then gs else if gs.any (conflB g) = true then gs else if gs.any (likeB g) = true then gs.set (gs.findIdx (likeB g)) g else if 256 ≤ gs.length then gs else gs ++ [g]
theorem idx_eq (p : G → Bool) : ∀ (gs : List G) (k : Nat) (x : G), gs[k]? = some x → p x = true → (∀ (j : Nat) (y : G), j < k → gs[j]? = some y → p y = false) → gs.findIdx p = k
  | [], k, x, h, _, _ => by simp at h
  | a :: gs, 0, x, h, hp, _ => by
    have ha : a = x := Option.some.inj h
    rw [List.findIdx_cons, ha, hp]; rfl
  | a :: gs, k + 1, x, h, hp, hno => by
    rw [List.findIdx_cons, hno 0 a (Nat.succ_pos _) rfl]
    have := idx_eq p gs k x h hp (fun j y hj hy => hno (j + 1) y (by omega) hy)
    rw [this]; rfl
theorem addL_len (g : G) (gs : List G) (h : gs.length ≤ 256) : (addL g gs).length ≤ 256 := by
  unfold addL
  split
  · exact h
  split
  · exact h
  split
  · rw [List.length_set]; exact h
  split
  · exact h
  · rw [List.length_append]; simp; omega
theorem add_any (g : G) (v : Value) (gs : List G) (w : World) (hv : TabG w v gs) (hl : gs.length ≤ 256) :
    Calls Try.prog 21 #[.agg #[v], gV g] w fun e w' => ∃ v', e = .returned (.tuple #[.agg #[v'], i6 (addE g gs)]) ∧ TabG w' v' (addL g gs) ∧ Below w.heap.size w w' := by
  unfold addE addL
  by_cases h1 : chkN g ≠ 0
  · rw [if_pos h1, if_pos h1]
    refine (add_bad g _ rfl h1 v gs w hv).mono ?_
    rintro e w' ⟨rfl, hb⟩
    exact ⟨v, rfl, hv.below hb, hb⟩
  rw [if_neg h1, if_neg h1]
  have hr : RightG g := Classical.not_not.1 fun h => h1 (chk_wrong h)
  by_cases h2 : gs.any (conflB g) = true
  · rw [if_pos h2, if_pos h2]
    refine (add_conf g hr v gs w hv (by omega) h2).mono ?_
    rintro e w' ⟨rfl, hb⟩
    exact ⟨v, rfl, hv.below hb, hb⟩
  rw [if_neg h2, if_neg h2]
  have h2' : gs.any (conflB g) = false := by simpa using h2
  by_cases h3 : gs.any (likeB g) = true
  · rw [if_pos h3, if_pos h3]
    refine (add_same g hr v gs w hv (by omega) h2' h3).mono ?_
    rintro e w' ⟨v', k, x, rfl, ⟨hx, hp, hno⟩, ht, _, hb⟩
    rw [idx_eq _ gs k x hx hp hno]
    exact ⟨v', rfl, ht, hb⟩
  rw [if_neg h3, if_neg h3]
  have h3' : gs.any (likeB g) = false := by simpa using h3
  by_cases h4 : 256 ≤ gs.length
  · rw [if_pos h4, if_pos h4]
    refine (add_full g hr v gs w hv h4 (by omega) h2' h3').mono ?_
    rintro e w' ⟨rfl, hb⟩
    exact ⟨v, rfl, hv.below hb, hb⟩
  rw [if_neg h4, if_neg h4]
  refine (add_new g hr v gs w hv (by omega) h2' h3').mono ?_
  rintro e w' ⟨v', rfl, ho, hb⟩
  exact ⟨v', rfl, tabG_own ho (by simp), hb⟩
/-- The same, by whether the table's value is another one than before. -/
theorem add_more (g : G) (v : Value) (gs : List G) (w : World) (hv : TabG w v gs) (hl : gs.length ≤ 256) :
    Calls Try.prog 21 #[.agg #[v], gV g] w fun e w' => ∃ v', e = .returned (.tuple #[.agg #[v'], i6 (addE g gs)]) ∧ TabG w' v' (addL g gs) ∧ ((v' = v ∧ addL g gs = gs) ∨ (0 < (addL g gs).length ∧ ∃ b cap, v' = .slice (some ⟨b, 0, none⟩) (addL g gs).length cap ∧ w.heap.size ≤ b)) ∧ Below w.heap.size w w' := by
  unfold addE addL
  by_cases h1 : chkN g ≠ 0
  · rw [if_pos h1, if_pos h1]
    refine (add_bad g _ rfl h1 v gs w hv).mono ?_
    rintro e w' ⟨rfl, hb⟩
    exact ⟨v, rfl, hv.below hb, Or.inl ⟨rfl, rfl⟩, hb⟩
  rw [if_neg h1, if_neg h1]
  have hr : RightG g := Classical.not_not.1 fun h => h1 (chk_wrong h)
  by_cases h2 : gs.any (conflB g) = true
  · rw [if_pos h2, if_pos h2]
    refine (add_conf g hr v gs w hv (by omega) h2).mono ?_
    rintro e w' ⟨rfl, hb⟩
    exact ⟨v, rfl, hv.below hb, Or.inl ⟨rfl, rfl⟩, hb⟩
  rw [if_neg h2, if_neg h2]
  have h2' : gs.any (conflB g) = false := by simpa using h2
  by_cases h3 : gs.any (likeB g) = true
  · rw [if_pos h3, if_pos h3]
    refine (add_same g hr v gs w hv (by omega) h2' h3).mono ?_
    rintro e w' ⟨v', k, x, rfl, ⟨hx, hp, hno⟩, ht, ⟨b, cap, rfl, hbl⟩, hb⟩
    rw [idx_eq _ gs k x hx hp hno]
    have hk : k < gs.length := (List.getElem?_eq_some_iff.1 hx).1
    exact ⟨_, rfl, ht, Or.inr ⟨by rw [List.length_set]; omega, b, cap, by rw [List.length_set], hbl⟩, hb⟩
  rw [if_neg h3, if_neg h3]
  have h3' : gs.any (likeB g) = false := by simpa using h3
  by_cases h4 : 256 ≤ gs.length
  · rw [if_pos h4, if_pos h4]
    refine (add_full g hr v gs w hv h4 (by omega) h2' h3').mono ?_
    rintro e w' ⟨rfl, hb⟩
    exact ⟨v, rfl, hv.below hb, Or.inl ⟨rfl, rfl⟩, hb⟩
  rw [if_neg h4, if_neg h4]
  refine (add_new g hr v gs w hv (by omega) h2' h3').mono ?_
  rintro e w' ⟨v', rfl, ho, hb⟩
  obtain ⟨b, cap, rfl⟩ := Joins.ownsRow_form ho (by simp)
  exact ⟨_, rfl, tabG_own ho (by simp), Or.inr ⟨by simp, b, cap, rfl, (ho.lt b rfl).1⟩, hb⟩
end Go.Proofs.Ytmcndiljldbkcaa
