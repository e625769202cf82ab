import Derived.Test.YtlofhbeifgaoeaaDoorRect13
import Derived.Test.YtlofhbeifgaoeaaDoorRect19
namespace Go.Proofs.YtlofhbeifgaoeaaDoor
open Go Go.RowKit
set_option linter.unusedSimpArgs false
set_option linter.unusedVariables false
/-- What Minus tells. -/
def minusR (c s : Int) (whole : R4) (parts : List R4) : List R4 := if c = 0 then [] else if s = 0 then [whole] else parts.filter posR
theorem betw_zero {x0 y0 x1 y1 p q s t : Int} (h : Betw x0 y0 x1 y1 p q s t) : zeroB p q s t = decide (s = 0) ∧ 0 ≤ s := by
  unfold zeroB
  rw [decide_eq_decide]
  rcases h with ⟨h1, h2, rfl, rfl, rfl, rfl⟩ | ⟨_, rfl, rfl, rfl, rfl⟩ <;> omega
theorem betw_nz {x0 y0 x1 y1 p q s t : Int} (h : Betw x0 y0 x1 y1 p q s t) : nzR (p, q, s, t) = posR (p, q, s, t) := by
  have h1 := betw_zero h
  unfold nzR posR
  dsimp only
  rw [h1.1]
  by_cases hs : s = 0
  · rw [decide_eq_true hs, decide_eq_false (by omega)]; rfl
  · rw [decide_eq_false hs, decide_eq_true (by omega)]; rfl
theorem filter4 {p1 q1 s1 t1 p2 q2 s2 t2 p3 q3 s3 t3 p4 q4 s4 t4 : Int} (h1 : nzR (p1, q1, s1, t1) = posR (p1, q1, s1, t1)) (h2 : nzR (p2, q2, s2, t2) = posR (p2, q2, s2, t2)) (h3 : nzR (p3, q3, s3, t3) = posR (p3, q3, s3, t3)) (h4 : nzR (p4, q4, s4, t4) = posR (p4, q4, s4, t4)) :
    ([(p1, q1, s1, t1), (p2, q2, s2, t2), (p3, q3, s3, t3), (p4, q4, s4, t4)] : List R4).filter nzR = ([(p1, q1, s1, t1), (p2, q2, s2, t2), (p3, q3, s3, t3), (p4, q4, s4, t4)] : List R4).filter posR := by
  apply List.filter_congr
  intro r hr
  simp only [List.mem_cons, List.not_mem_nil, or_false] at hr
  rcases hr with rfl | rfl | rfl | rfl
  · exact h1
  · exact h2
  · exact h3
  · exact h4
theorem norm_zero {x y r h a b c d : Int} (n : Norm x y r h a b c d) : zeroB a b c d = decide (c = 0) := by
  have := n.bounds
  unfold zeroB
  rw [decide_eq_decide]
  omega
theorem minus_any (x y r h a b c d x' y' r' h' a' b' c' d' p q s t p1 q1 s1 t1 p2 q2 s2 t2 p3 q3 s3 t3 p4 q4 s4 t4 : Int) (w : World) (hs : RowAt 0 noneCells w) (n : Norm x y r h a b c d) (n' : Norm x' y' r' h' a' b' c' d')
    (nb : Betw (max a a') (max b b') (min (a + c) (a' + c')) (min (b + d) (b' + d')) p q s t) (nb1 : Betw (a) (b) (a + c) (q) p1 q1 s1 t1) (nb2 : Betw (a) (q) (p) (q + t) p2 q2 s2 t2) (nb3 : Betw (p + s) (q) (a + c) (q + t) p3 q3 s3 t3) (nb4 : Betw (a) (q + t) (a + c) (b + d) p4 q4 s4 t4) :
    Calls Tryd.prog 23 #[rectV x y r h, rectV x' y' r' h'] w fun e w' => ∃ v, e = .returned v ∧ OwnR w' w.heap.size v (minusR c s (a, b, c, d) [(p1, q1, s1, t1), (p2, q2, s2, t2), (p3, q3, s3, t3), (p4, q4, s4, t4)]) ∧ Below w.heap.size w w' := by
  unfold minusR
  have hz := norm_zero n
  have hs0 := betw_zero nb
  by_cases hc : c = 0
  · rw [if_pos hc]
    exact minus_nil x y r h a b c d x' y' r' h' a' b' c' d' p q s t w hs n n' nb (by rw [hz, decide_eq_true hc])
  · rw [if_neg hc]
    by_cases h0 : s = 0
    · rw [if_pos h0]
      exact minus_none x y r h a b c d x' y' r' h' a' b' c' d' p q s t w hs n n' nb (by rw [hz, decide_eq_false hc]) (by rw [hs0.1, decide_eq_true h0])
    · rw [if_neg h0, ← filter4 (betw_nz nb1) (betw_nz nb2) (betw_nz nb3) (betw_nz nb4)]
      exact minus_some x y r h a b c d x' y' r' h' a' b' c' d' p q s t p1 q1 s1 t1 p2 q2 s2 t2 p3 q3 s3 t3 p4 q4 s4 t4 w hs n n' nb (by omega) nb1 nb2 nb3 nb4
theorem rminus_any (x y r h a b c d x' y' r' h' a' b' c' d' p q s t p1 q1 s1 t1 p2 q2 s2 t2 p3 q3 s3 t3 p4 q4 s4 t4 : Int) (w : World) (n : Norm x y r h a b c d) (n' : Norm x' y' r' h' a' b' c' d')
    (nb : Betw (max a a') (max b b') (min (a + c) (a' + c')) (min (b + d) (b' + d')) p q s t) (nb1 : Betw (a) (b) (a + c) (q) p1 q1 s1 t1) (nb2 : Betw (a) (q) (p) (q + t) p2 q2 s2 t2) (nb3 : Betw (p + s) (q) (a + c) (q + t) p3 q3 s3 t3) (nb4 : Betw (a) (q + t) (a + c) (b + d) p4 q4 s4 t4) :
    Calls Tryd.prog 24 #[rectV x y r h, rectV x' y' r' h'] w fun e w' => ∃ v, e = .returned v ∧ OwnR w' w.heap.size v (minusR c s (a, b, c, d) [(p1, q1, s1, t1), (p2, q2, s2, t2), (p3, q3, s3, t3), (p4, q4, s4, t4)]) ∧ Below w.heap.size w w' := by
  unfold minusR
  have hs0 := betw_zero nb
  by_cases h0 : s = 0
  · rw [if_pos h0]
    have := rminus_none x y r h a b c d x' y' r' h' a' b' c' d' p q s t w n n' nb h0
    by_cases hc : c = 0
    · rw [if_pos hc]
      rwa [show ([(a, b, c, d)] : List R4).filter posR = [] by simp [posR, hc]] at this
    · rw [if_neg hc]
      have hc1 : 0 < c := by have := n.bounds; omega
      rwa [show ([(a, b, c, d)] : List R4).filter posR = [(a, b, c, d)] by simp [posR, hc1]] at this
  · have hc : ¬ c = 0 := by
      intro hc
      have := n.bounds
      have := n'.bounds
      rcases nb with ⟨_, _, _, _, rfl, _⟩ | ⟨_, _, _, rfl, _⟩ <;> omega
    rw [if_neg hc, if_neg h0]
    exact rminus_some x y r h a b c d x' y' r' h' a' b' c' d' p q s t p1 q1 s1 t1 p2 q2 s2 t2 p3 q3 s3 t3 p4 q4 s4 t4 w n n' nb (by omega) nb1 nb2 nb3 nb4
theorem minusR_len (c s : Int) (whole : R4) (p1 p2 p3 p4 : R4) : (minusR c s whole [p1, p2, p3, p4]).length ≤ 4 := by
  unfold minusR
  split
  · simp
  · split
    · simp
    · exact Nat.le_trans (List.length_filter_le _ _) (by simp)
end Go.Proofs.YtlofhbeifgaoeaaDoor
