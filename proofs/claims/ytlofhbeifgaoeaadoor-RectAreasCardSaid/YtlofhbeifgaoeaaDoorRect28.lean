import Derived.Test.YtlofhbeifgaoeaaDoorRect26
namespace Go.Proofs.YtlofhbeifgaoeaaDoor
open Go Go.RowKit
set_option linter.unusedSimpArgs false
set_option linter.unusedVariables false
def areaR (r : R4) : Int := r.2.2.1 * r.2.2.2
def areas : List R4 → Int
  | [] => 0
  | r :: rs => areaR r + areas rs
theorem areas_step : ∀ (rs : List R4) (k : Nat) (r : R4), rs[k]? = some r → areas (rs.take (k + 1)) = areas (rs.take k) + areaR r
  | [], k, r, h => by simp at h
  | q :: rs, 0, r, h => by simp at h; subst h; simp [areas]
  | q :: rs, k + 1, r, h => by
    have := areas_step rs k r (by simpa using h)
    simp only [List.take_succ_cons, areas] at this ⊢
    omega
theorem areas_pos : ∀ rs : List R4, (∀ r ∈ rs, posR r = false → areaR r = 0) → areas (rs.filter posR) = areas rs
  | [], _ => rfl
  | r :: rs, h => by
    have ih := areas_pos rs (fun r hr => h r (by simp [hr]))
    rw [List.filter_cons]
    by_cases hp : posR r = true
    · rw [if_pos hp]; simp only [areas]; rw [ih]
    · rw [if_neg hp, ih]
      have := h r (by simp) (by simpa using hp)
      simp only [areas]; omega
theorem betw_area {x0 y0 x1 y1 p q s t : Int} (h : Betw x0 y0 x1 y1 p q s t) (hx : x0 ≤ x1) (hy : y0 ≤ y1) : s * t = (x1 - x0) * (y1 - y0) := by
  rcases h with ⟨h1, h2, rfl, rfl, rfl, rfl⟩ | ⟨hn, rfl, rfl, rfl, rfl⟩
  · rfl
  · by_cases hx' : x0 = x1
    · rw [hx']; simp
    · have : y0 = y1 := by omega
      rw [this]; simp
/-- The places of a rectangle: those in common, and those of Minus. -/
theorem minus_area {x y r h a b c d x' y' r' h' a' b' c' d' p q s t p1 q1 s1 t1 p2 q2 s2 t2 p3 q3 s3 t3 p4 q4 s4 t4 : Int} (n : Norm x y r h a b c d) (n' : Norm x' y' r' h' a' b' c' d')
    (nb : Betw (max a a') (max b b') (min (a + c) (a' + c')) (min (b + d) (b' + d')) p q s t) (nb1 : Betw (a) (b) (a + c) (q) p1 q1 s1 t1) (nb2 : Betw (a) (q) (p) (q + t) p2 q2 s2 t2) (nb3 : Betw (p + s) (q) (a + c) (q + t) p3 q3 s3 t3) (nb4 : Betw (a) (q + t) (a + c) (b + d) p4 q4 s4 t4) :
    s * t + areas (minusR c s (a, b, c, d) [(p1, q1, s1, t1), (p2, q2, s2, t2), (p3, q3, s3, t3), (p4, q4, s4, t4)]) = c * d := by
  have bn := n.bounds
  have bn' := n'.bounds
  unfold minusR
  by_cases hc : c = 0
  · rw [if_pos hc]
    have hs : s = 0 := by rcases nb with ⟨_, _, rfl, rfl, rfl, rfl⟩ | ⟨_, _, _, h3, _⟩ <;> omega
    rw [hc, hs]; simp [areas]
  · rw [if_neg hc]
    by_cases hs : s = 0
    · rw [if_pos hs, hs]; simp [areas, areaR]
    · rw [if_neg hs]
      have hpb : a ≤ p ∧ p + s ≤ a + c ∧ b ≤ q ∧ q + t ≤ b + d ∧ 1 ≤ s ∧ 1 ≤ t := by
        rcases nb with ⟨h1, h2, rfl, rfl, rfl, rfl⟩ | ⟨_, _, _, h3, _⟩ <;> omega
      have z : ∀ {x0 y0 x1 y1 p q s t : Int}, Betw x0 y0 x1 y1 p q s t → posR (p, q, s, t) = false → areaR (p, q, s, t) = 0 := by
        intro x0 y0 x1 y1 p q s t h hp
        have h1 := (betw_zero h).2
        unfold posR at hp
        simp only [decide_eq_false_iff_not] at hp
        unfold areaR
        dsimp only at hp ⊢
        rw [show s = 0 by omega]; simp
      rw [areas_pos _ (by
        intro r hr hp
        simp only [List.mem_cons, List.not_mem_nil, or_false] at hr
        rcases hr with rfl | rfl | rfl | rfl
        · exact z nb1 hp
        · exact z nb2 hp
        · exact z nb3 hp
        · exact z nb4 hp)]
      simp only [areas, areaR]
      rw [betw_area nb1 (by omega) (by omega), betw_area nb2 (by omega) (by omega), betw_area nb3 (by omega) (by omega), betw_area nb4 (by omega) (by omega)]
      clear nb nb1 nb2 nb3 nb4 n n' bn bn' hpb
      grind
theorem join_comm {a b : R4} (h1 : OkR a) (h2 : OkR b) : joinR a b = joinR b a := by
  obtain ⟨a1, a2, a3, a4⟩ := a
  obtain ⟨b1, b2, b3, b4⟩ := b
  have e1 := h1.bounds
  have e2 := h2.bounds
  dsimp only at e1 e2
  unfold joinR
  dsimp only
  by_cases ha : a3 = 0
  · by_cases hb : b3 = 0
    · rw [if_pos hb, if_pos ha]; simp only [Prod.mk.injEq]; omega
    · rw [if_neg hb, if_pos ha, if_pos ha]
  · by_cases hb : b3 = 0
    · rw [if_pos hb, if_neg ha, if_pos hb]
    · rw [if_neg hb, if_neg ha, if_neg ha, if_neg hb]; simp only [Prod.mk.injEq]; omega
theorem join_assoc {a b e : R4} (h1 : OkR a) (h2 : OkR b) (h3 : OkR e) : joinR (joinR a b) e = joinR a (joinR b e) := by
  obtain ⟨a1, a2, a3, a4⟩ := a
  obtain ⟨b1, b2, b3, b4⟩ := b
  obtain ⟨c1, c2, c3, c4⟩ := e
  have e1 := h1.bounds
  have e2 := h2.bounds
  have e3 := h3.bounds
  dsimp only at e1 e2 e3
  unfold joinR
  dsimp only
  by_cases ha : a3 = 0 <;> by_cases hb : b3 = 0 <;> by_cases hc : c3 = 0 <;> simp only [ha, hb, hc, if_true, if_false]
  all_goals (repeat' split) <;> first | rfl | (exfalso; omega) | (simp only [Prod.mk.injEq]; omega)
theorem join_zero (a : R4) : joinR a (0, 0, 0, 0) = a := by unfold joinR; rw [if_pos rfl]
theorem zero_join {a : R4} (h : OkR a) : joinR (0, 0, 0, 0) a = a := by rw [join_comm okR_zero h, join_zero]
/-- Does the one hold the other one? -/
def holdsR (a b : R4) : Bool := decide (b.2.2.1 = 0 ∨ (a.1 ≤ b.1 ∧ b.1 + b.2.2.1 ≤ a.1 + a.2.2.1 ∧ a.2.1 ≤ b.2.1 ∧ b.2.1 + b.2.2.2 ≤ a.2.1 + a.2.2.2))
theorem holds_is {a b c d a' b' c' d' p q s t : Int} (h1 : OkR (a, b, c, d)) (h2 : OkR (a', b', c', d')) (nb : Betw (max a a') (max b b') (min (a + c) (a' + c')) (min (b + d) (b' + d')) p q s t) :
    eqR p q s t a' b' c' d' = holdsR (a, b, c, d) (a', b', c', d') := by
  have e1 := h1.bounds
  have e2 := h2.bounds
  unfold eqR holdsR
  dsimp only at e1 e2 ⊢
  rw [decide_eq_decide]
  rcases nb with ⟨g1, g2, rfl, rfl, rfl, rfl⟩ | ⟨g1, rfl, rfl, rfl, rfl⟩ <;> omega
theorem holds_join {a b : R4} (h1 : OkR a) (h2 : OkR b) : holdsR (joinR a b) a = true ∧ holdsR (joinR a b) b = true := by
  obtain ⟨a1, a2, a3, a4⟩ := a
  obtain ⟨b1, b2, b3, b4⟩ := b
  have e1 := h1.bounds
  have e2 := h2.bounds
  dsimp only at e1 e2
  unfold holdsR joinR
  dsimp only
  split
  · dsimp only; exact ⟨decide_eq_true (by omega), decide_eq_true (by omega)⟩
  · split
    · dsimp only; exact ⟨decide_eq_true (by omega), decide_eq_true (by omega)⟩
    · dsimp only; exact ⟨decide_eq_true (by omega), decide_eq_true (by omega)⟩
theorem join_of_holds {a b : R4} (h1 : OkR a) (h2 : OkR b) (h : holdsR a b = true) : joinR a b = a := by
  obtain ⟨a1, a2, a3, a4⟩ := a
  obtain ⟨b1, b2, b3, b4⟩ := b
  have e1 := h1.bounds
  have e2 := h2.bounds
  unfold holdsR at h
  simp only [decide_eq_true_eq] at h
  dsimp only at e1 e2 h
  unfold joinR
  dsimp only
  split
  · rfl
  · split
    · simp only [Prod.mk.injEq]; omega
    · simp only [Prod.mk.injEq]; omega
/-- What Minus tells of b less a is nothing just if a holds b. -/
theorem holds_minus {a b c d a' b' c' d' p q s t p1 q1 s1 t1 p2 q2 s2 t2 p3 q3 s3 t3 p4 q4 s4 t4 : Int} (h1 : OkR (a, b, c, d)) (h2 : OkR (a', b', c', d')) (nb : Betw (max a a') (max b b') (min (a + c) (a' + c')) (min (b + d) (b' + d')) p q s t) (nb1 : Betw (a) (b) (a + c) (q) p1 q1 s1 t1) (nb2 : Betw (a) (q) (p) (q + t) p2 q2 s2 t2) (nb3 : Betw (p + s) (q) (a + c) (q + t) p3 q3 s3 t3) (nb4 : Betw (a) (q + t) (a + c) (b + d) p4 q4 s4 t4) :
    (minusR c s (a, b, c, d) [(p1, q1, s1, t1), (p2, q2, s2, t2), (p3, q3, s3, t3), (p4, q4, s4, t4)]).length = 0 ↔ holdsR (a', b', c', d') (a, b, c, d) = true := by
  have e1 := h1.bounds
  have e2 := h2.bounds
  unfold holdsR minusR
  dsimp only at e1 e2 ⊢
  rw [decide_eq_true_iff]
  by_cases hc : c = 0
  · rw [if_pos hc]; simp [hc]
  · rw [if_neg hc]
    by_cases hs : s = 0
    · rw [if_pos hs]
      simp only [List.length_cons, List.length_nil]
      rcases nb with ⟨g1, g2, rfl, rfl, rfl, rfl⟩ | ⟨g1, rfl, rfl, rfl, rfl⟩ <;> omega
    · rw [if_neg hs]
      have hpb : max a a' = p ∧ max b b' = q ∧ min (a + c) (a' + c') = p + s ∧ min (b + d) (b' + d') = q + t ∧ 1 ≤ s ∧ 1 ≤ t := by
        rcases nb with ⟨g1, g2, rfl, rfl, rfl, rfl⟩ | ⟨_, _, _, h3, _⟩ <;> omega
      have z : ∀ {x0 y0 x1 y1 p q s t : Int}, Betw x0 y0 x1 y1 p q s t → (posR (p, q, s, t) = false ↔ ¬ (x0 < x1 ∧ y0 < y1)) := by
        intro x0 y0 x1 y1 p q s t h
        unfold posR
        simp only [decide_eq_false_iff_not]
        rcases h with ⟨g1, g2, rfl, rfl, rfl, rfl⟩ | ⟨g1, rfl, rfl, rfl, rfl⟩ <;> omega
      rw [List.length_eq_zero_iff, List.filter_eq_nil_iff]
      have z1 := z nb1
      have z2 := z nb2
      have z3 := z nb3
      have z4 := z nb4
      clear z nb nb1 nb2 nb3 nb4
      constructor
      · intro hall
        have g1 := z1.1 (by simpa using hall _ (by simp))
        have g2 := z2.1 (by simpa using hall (p2, q2, s2, t2) (by simp))
        have g3 := z3.1 (by simpa using hall (p3, q3, s3, t3) (by simp))
        have g4 := z4.1 (by simpa using hall (p4, q4, s4, t4) (by simp))
        omega
      · intro hh r hr
        have g : posR (p1, q1, s1, t1) = false ∧ posR (p2, q2, s2, t2) = false ∧ posR (p3, q3, s3, t3) = false ∧ posR (p4, q4, s4, t4) = false := ⟨z1.2 (by omega), z2.2 (by omega), z3.2 (by omega), z4.2 (by omega)⟩
        simp only [List.mem_cons, List.not_mem_nil, or_false] at hr
        rcases hr with rfl | rfl | rfl | rfl
        · simp [g.1]
        · simp [g.2.1]
        · simp [g.2.2.1]
        · simp [g.2.2.2]
theorem box_one (r : R4) : boxR [r] = normR r := by
  unfold boxR
  simp only [List.foldl_cons, List.foldl_nil]
  exact zero_join (okR_norm r)
end Go.Proofs.YtlofhbeifgaoeaaDoor
