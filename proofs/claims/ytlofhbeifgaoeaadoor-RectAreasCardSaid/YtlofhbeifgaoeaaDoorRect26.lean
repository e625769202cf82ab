import Derived.Test.YtlofhbeifgaoeaaDoorRect24
namespace Go.Proofs.YtlofhbeifgaoeaaDoor
open Go Go.RowKit
set_option linter.unusedSimpArgs false
set_option linter.unusedVariables false
def inR (u v : Int) (r : R4) : Bool := inB r.1 r.2.1 r.2.2.1 r.2.2.2 u v
def many (u v : Int) (rs : List R4) : Nat := (rs.filter (inR u v)).length
theorem many_yes {u v : Int} {rs : List R4} {k : Nat} {r : R4} (h : rs[k]? = some r) (hz : inR u v r = true) : many u v (rs.take (k + 1)) = many u v (rs.take k) + 1 := by
  unfold many; rw [List.take_add_one, h]; simp [hz]
theorem many_no {u v : Int} {rs : List R4} {k : Nat} {r : R4} (h : rs[k]? = some r) (hz : inR u v r = false) : many u v (rs.take (k + 1)) = many u v (rs.take k) := by
  unfold many; rw [List.take_add_one, h]; simp [hz]
theorem betw_in {x0 y0 x1 y1 p q s t : Int} (h : Betw x0 y0 x1 y1 p q s t) (u v : Int) : inB p q s t u v = decide (x0 ≤ u ∧ u < x1 ∧ y0 ≤ v ∧ v < y1) := by
  unfold inB
  rw [decide_eq_decide]
  rcases h with ⟨h1, h2, rfl, rfl, rfl, rfl⟩ | ⟨_, rfl, rfl, rfl, rfl⟩ <;> omega
def one (b : Bool) : Nat := if b then 1 else 0
theorem many_cons (u v : Int) (r : R4) (rs : List R4) : many u v (r :: rs) = one (inR u v r) + many u v rs := by
  unfold many one
  rw [List.filter_cons]
  cases inR u v r <;> simp <;> omega
theorem many_pos (u v : Int) : ∀ rs : List R4, many u v (rs.filter posR) = many u v rs
  | [] => rfl
  | r :: rs => by
    rw [List.filter_cons, many_cons]
    by_cases hp : posR r = true
    · rw [if_pos hp, many_cons, many_pos u v rs]
    · rw [if_neg hp, many_pos u v rs]
      have : inR u v r = false := by
        unfold posR at hp
        unfold inR inB
        refine decide_eq_false ?_
        simp only [decide_eq_true_eq] at hp
        omega
      rw [this]; simp [one]
theorem one_dec (P : Prop) [Decidable P] : one (decide P) = if P then 1 else 0 := by
  unfold one
  by_cases h : P <;> simp [h]
/-- Each place of the one and not of the other one lies in just one of what Minus tells. -/
theorem minus_many {x y r h a b c d x' y' r' h' a' b' c' d' p q s t p1 q1 s1 t1 p2 q2 s2 t2 p3 q3 s3 t3 p4 q4 s4 t4 : Int} (n : Norm x y r h a b c d) (n' : Norm x' y' r' h' a' b' c' d')
    (nb : Betw (max a a') (max b b') (min (a + c) (a' + c')) (min (b + d) (b' + d')) p q s t)
    (nb1 : Betw a b (a + c) q p1 q1 s1 t1) (nb2 : Betw a q p (q + t) p2 q2 s2 t2) (nb3 : Betw (p + s) q (a + c) (q + t) p3 q3 s3 t3) (nb4 : Betw a (q + t) (a + c) (b + d) p4 q4 s4 t4) (u v : Int) :
    many u v (minusR c s (a, b, c, d) [(p1, q1, s1, t1), (p2, q2, s2, t2), (p3, q3, s3, t3), (p4, q4, s4, t4)]) = one (inB a b c d u v && !inB a' b' c' d' u v) := by
  have bn := n.bounds
  have bn' := n'.bounds
  unfold minusR
  by_cases hc : c = 0
  · rw [if_pos hc]
    have : inB a b c d u v = false := by unfold inB; exact decide_eq_false (by omega)
    rw [this]; rfl
  · rw [if_neg hc]
    by_cases hs : s = 0
    · rw [if_pos hs]
      have hno : (inB a b c d u v && !inB a' b' c' d' u v) = inB a b c d u v := by
        by_cases hi : inB a' b' c' d' u v = true
        · have hf : inB a b c d u v = false := by
            unfold inB at hi ⊢
            simp only [decide_eq_true_eq] at hi
            refine decide_eq_false ?_
            rcases nb with ⟨h1, h2, _, _, h3, _⟩ | ⟨h1, _⟩ <;> omega
          rw [hf, hi]; rfl
        · simp only [Bool.not_eq_true] at hi
          rw [hi]; simp
      rw [hno, many_cons]
      rfl
    · rw [if_neg hs, many_pos, many_cons, many_cons, many_cons, many_cons]
      unfold inR
      dsimp only
      rw [betw_in nb1, betw_in nb2, betw_in nb3, betw_in nb4]
      have hin : (inB a b c d u v && !inB a' b' c' d' u v) = decide ((a ≤ u ∧ u < a + c ∧ b ≤ v ∧ v < b + d) ∧ ¬ (p ≤ u ∧ u < p + s ∧ q ≤ v ∧ v < q + t)) := by
        unfold inB
        rw [← decide_not, ← Bool.decide_and, decide_eq_decide]
        rcases nb with ⟨h1, h2, rfl, rfl, rfl, rfl⟩ | ⟨_, _, _, h3, _⟩
        · omega
        · omega
      rw [hin]
      simp only [one_dec, many, List.filter_nil, List.length_nil]
      have hpb : a ≤ p ∧ p + s ≤ a + c ∧ b ≤ q ∧ q + t ≤ b + d ∧ 1 ≤ s ∧ 1 ≤ t := by
        rcases nb with ⟨h1, h2, rfl, rfl, rfl, rfl⟩ | ⟨_, _, _, h3, _⟩ <;> omega
      clear nb nb1 nb2 nb3 nb4 n n' bn bn' hin
      repeat' split
      all_goals omega
theorem good_betw {x0 y0 x1 y1 p q s t : Int} (h : Betw x0 y0 x1 y1 p q s t) (hp : 0 < s) (b1 : -1048576 ≤ x0) (b2 : x1 ≤ 1048576) (b3 : -1048576 ≤ y0) (b4 : y1 ≤ 1048576) : Good p q s t := by
  rcases h with ⟨h1, h2, rfl, rfl, rfl, rfl⟩ | ⟨_, rfl, rfl, rfl, rfl⟩
  · exact good_mk (by omega)
  · omega
/-- What Minus tells are rectangles that aren't empty. -/
theorem minus_good {x y r h a b c d x' y' r' h' a' b' c' d' p q s t p1 q1 s1 t1 p2 q2 s2 t2 p3 q3 s3 t3 p4 q4 s4 t4 : Int} (n : Norm x y r h a b c d) (n' : Norm x' y' r' h' a' b' c' d')
    (nb : Betw (max a a') (max b b') (min (a + c) (a' + c')) (min (b + d) (b' + d')) p q s t)
    (nb1 : Betw a b (a + c) q p1 q1 s1 t1) (nb2 : Betw a q p (q + t) p2 q2 s2 t2) (nb3 : Betw (p + s) q (a + c) (q + t) p3 q3 s3 t3) (nb4 : Betw a (q + t) (a + c) (b + d) p4 q4 s4 t4) :
    ∀ r ∈ minusR c s (a, b, c, d) [(p1, q1, s1, t1), (p2, q2, s2, t2), (p3, q3, s3, t3), (p4, q4, s4, t4)], Good r.1 r.2.1 r.2.2.1 r.2.2.2 := by
  have bn := n.bounds
  have bn' := n'.bounds
  unfold minusR
  intro r hr
  by_cases hc : c = 0
  · rw [if_pos hc] at hr; simp at hr
  · rw [if_neg hc] at hr
    by_cases hs : s = 0
    · rw [if_pos hs] at hr
      simp only [List.mem_singleton] at hr
      subst hr
      exact good_mk (by dsimp only; omega)
    · rw [if_neg hs] at hr
      have hpb : a ≤ p ∧ p + s ≤ a + c ∧ b ≤ q ∧ q + t ≤ b + d ∧ 1 ≤ s ∧ 1 ≤ t := by
        rcases nb with ⟨h1, h2, rfl, rfl, rfl, rfl⟩ | ⟨_, _, _, h3, _⟩ <;> omega
      obtain ⟨hm, hp⟩ := List.mem_filter.1 hr
      unfold posR at hp
      simp only [decide_eq_true_eq] at hp
      simp only [List.mem_cons, List.not_mem_nil, or_false] at hm
      rcases hm with rfl | rfl | rfl | rfl
      · exact good_betw nb1 hp (by omega) (by omega) (by omega) (by omega)
      · exact good_betw nb2 hp (by omega) (by omega) (by omega) (by omega)
      · exact good_betw nb3 hp (by omega) (by omega) (by omega) (by omega)
      · exact good_betw nb4 hp (by omega) (by omega) (by omega) (by omega)
theorem betw_ok {x0 y0 x1 y1 p q s t : Int} (h : Betw x0 y0 x1 y1 p q s t) (b1 : -1048576 ≤ x0) (b2 : x1 ≤ 1048576) (b3 : -1048576 ≤ y0) (b4 : y1 ≤ 1048576) : Norm p q s t p q s t := by
  rcases h with ⟨h1, h2, rfl, rfl, rfl, rfl⟩ | ⟨_, rfl, rfl, rfl, rfl⟩
  · exact okR_of (by omega)
  · exact okR_zero
/-- The box of two. -/
theorem box_two (r1 r2 : R4) : boxR [r1, r2] = joinR (normR r1) (normR r2) := by
  unfold boxR
  simp only [List.foldl_cons, List.foldl_nil]
  congr 1
  unfold joinR
  dsimp only
  split
  · rename_i h
    have := (okR_norm r1).bounds
    rw [show normR r1 = ((normR r1).1, (normR r1).2.1, (normR r1).2.2.1, (normR r1).2.2.2) from rfl]
    simp only [Prod.mk.injEq]
    omega
  · rw [if_pos rfl]
theorem norm_of {x y r h a b c d : Int} (n : Norm x y r h a b c d) : normR (x, y, r, h) = (a, b, c, d) := by
  have := norm_unique n (normR_norm (x, y, r, h))
  obtain ⟨rfl, rfl, rfl, rfl⟩ := this
  rfl
theorem join_in {a b c d a' b' c' d' u v : Int} (h1 : OkR (a, b, c, d)) (h2 : OkR (a', b', c', d')) (h : inB a b c d u v = true ∨ inB a' b' c' d' u v = true) : inR u v (joinR (a, b, c, d) (a', b', c', d')) = true := by
  have b1 := h1.bounds
  have b2 := h2.bounds
  dsimp only at b1 b2
  unfold inB at h
  simp only [decide_eq_true_eq] at h
  unfold inR inB joinR
  dsimp only
  split
  · dsimp only; exact decide_eq_true (by omega)
  · split
    · dsimp only; exact decide_eq_true (by omega)
    · dsimp only; exact decide_eq_true (by omega)
end Go.Proofs.YtlofhbeifgaoeaaDoor
