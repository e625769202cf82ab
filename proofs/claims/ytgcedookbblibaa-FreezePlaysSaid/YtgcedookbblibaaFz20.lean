/- Layer 39: an act, done to both: any. -/
import Derived.Test.YtgcedookbblibaaFz19
namespace Go.Proofs.Ytgcedookbblibaa
open Go Go.RowKit
set_option linter.unusedSimpArgs false
set_option linter.unusedVariables false
/-- What an act leaves: both devices alike, and what waits for each. -/
def PlayQ (w : World) (n b b2 : Nat) (ws0 : List In) (e : Ending) (w' : World) : Prop := ∃ (d : Dv) (A A2 : Option Addr) (m c c2 b' o' b2' o2' : Nat) (ws : List In), e = .returned (.tuple #[dvV d (.slice A m c), dvV d (.slice A2 m c2), .bool true]) ∧ m ≤ n + 1 ∧ ws.length = m ∧ (m ≤ c ∧ c ≤ maxLen) ∧ (m ≤ c2 ∧ c2 ≤ maxLen) ∧ (0 < m → A = some ⟨b', o', none⟩) ∧ (0 < m → A2 = some ⟨b2', o2', none⟩) ∧ (A2 = none → c2 = 0) ∧ (cellsR inL ws ≠ [] → b' < w'.heap.size ∧ w'.rangeAt b' o' (cellsR inL ws)) ∧ (cellsR inL ws ≠ [] → b2' < w'.heap.size ∧ w'.rangeAt b2' o2' (cellsR inL ws)) ∧ (cellsR inL ws ≠ [] → (b' = b ∧ cellsR inL ws0 ≠ []) ∨ w.heap.size ≤ b') ∧ (cellsR inL ws ≠ [] → (b2' = b2 ∧ cellsR inL ws0 ≠ []) ∨ w.heap.size ≤ b2') ∧ Below w.heap.size w w'
theorem PlayQ.same {w w' : World} {a a2 : Option Addr} {n c c2 : Nat} {ws : List In} {b o b2 o2 : Nat} (hn : ws.length = n) (hc : n ≤ c ∧ c ≤ maxLen) (hc2 : n ≤ c2 ∧ c2 ≤ maxLen) (hA : 0 < n → a = some ⟨b, o, none⟩) (hA2 : 0 < n → a2 = some ⟨b2, o2, none⟩) (hnn : a2 = none → c2 = 0) (hB : cellsR inL ws ≠ [] → b < w.heap.size ∧ w.rangeAt b o (cellsR inL ws)) (hB2 : cellsR inL ws ≠ [] → b2 < w.heap.size ∧ w.rangeAt b2 o2 (cellsR inL ws)) (d : Dv) (hb : Below w.heap.size w w') :
    PlayQ w n b b2 ws (.returned (.tuple #[dvV d (.slice a n c), dvV d (.slice a2 n c2), .bool true])) w' :=
  ⟨d, a, a2, n, c, c2, b, o, b2, o2, ws, rfl, Nat.le_succ _, hn, hc, hc2, hA, hA2, hnn, fun hne => ⟨Nat.lt_of_lt_of_le (hB hne).1 hb.size, range_below (hB hne).1 (hB hne).2 hb⟩, fun hne => ⟨Nat.lt_of_lt_of_le (hB2 hne).1 hb.size, range_below (hB2 hne).1 (hB2 hne).2 hb⟩, fun hne => Or.inl ⟨rfl, hne⟩, fun hne => Or.inl ⟨rfl, hne⟩, hb⟩
theorem tail_ne {ws : List In} (h : cellsR inL (ws.drop 1) ≠ []) : cellsR inL ws ≠ [] := by
  intro e
  rw [cellsR_drop inL_len, e] at h
  simp at h
theorem tail_row {w w' : World} {ws : List In} {b o : Nat} (hB : cellsR inL ws ≠ [] → b < w.heap.size ∧ w.rangeAt b o (cellsR inL ws)) (hb : Below w.heap.size w w') (h : cellsR inL (ws.drop 1) ≠ []) : b < w'.heap.size ∧ w'.rangeAt b (o + 6) (cellsR inL (ws.drop 1)) := by
  have hne : cellsR inL ws ≠ [] := by
    intro e
    rw [cellsR_drop inL_len, e] at h
    simp at h
  refine ⟨Nat.lt_of_lt_of_le (hB hne).1 hb.size, ?_⟩
  rw [cellsR_drop inL_len]
  exact range_drop (range_below (hB hne).1 (hB hne).2 hb) 6
set_option maxRecDepth 100000 in
set_option maxHeartbeats 16000000 in
theorem play_any (d0 d1 : Int) (d2 : Bool) (d3 : Int) (d4 d5 : Bool) (d6 d7 : Int) (d8 d9 d10 : Bool) (d11 d12 d13 d14 d15 d16 : Int) (d17 : Bool) (e0 : Int) (y0 y1 : Int) (y2 : Bool) (y3 : Int) (y4 y5 : Bool) (y6 y7 : Int) (y8 : Bool) (z0 z1 z2 z3 z4 z5 : Int) (y9 : Int) (a a2 : Option Addr) (n c c2 : Nat) (ws : List In) (b o b2 o2 : Nat) (he : 0 ≤ e0) (hn : ws.length = n) (hc : n ≤ c ∧ c ≤ maxLen) (hc2 : n ≤ c2 ∧ c2 ≤ maxLen) (hA : 0 < n → a = some ⟨b, o, none⟩) (hA2 : 0 < n → a2 = some ⟨b2, o2, none⟩) (hnn : a2 = none → c2 = 0) (hl : n < 256) (w : World) (hB : cellsR inL ws ≠ [] → b < w.heap.size ∧ w.rangeAt b o (cellsR inL ws)) (hB2 : cellsR inL ws ≠ [] → b2 < w.heap.size ∧ w.rangeAt b2 o2 (cellsR inL ws)) :
    Calls Try.prog 12 #[(.agg #[(.int .u8 e0), i6 y0, uw y1, .bool y2, i6 y3, .bool y4, .bool y5, i6 y6, uw y7, (.bool y8), i6 z0, i6 z1, i6 z2, i6 z3, uw z4, i6 z5, (i6 y9)]), (.agg #[i6 d0, uw d1, .bool d2, i6 d3, .bool d4, .bool d5, i6 d6, uw d7, .bool d8, .bool d9, .bool d10, i6 d11, i6 d12, i6 d13, i6 d14, uw d15, i6 d16, .bool d17, (.slice a n c)]), (.agg #[i6 d0, uw d1, .bool d2, i6 d3, .bool d4, .bool d5, i6 d6, uw d7, .bool d8, .bool d9, .bool d10, i6 d11, i6 d12, i6 d13, i6 d14, uw d15, i6 d16, .bool d17, (.slice a2 n c2)])] w (PlayQ w n b b2 ws) := by
  have h8 : e0.tmod 8 = 0 ∨ e0.tmod 8 = 1 ∨ e0.tmod 8 = 2 ∨ e0.tmod 8 = 3 ∨ e0.tmod 8 = 4 ∨ e0.tmod 8 = 5 ∨ e0.tmod 8 = 6 ∨ e0.tmod 8 = 7 := by rw [Int.tmod_eq_emod_of_nonneg he]; omega
  rcases h8 with h8 | h8 | h8 | h8 | h8 | h8 | h8 | h8
  · exact (play_0 _ _ _ _ _ _ _ _ _ _ _ _ _ _ _ _ _ _ _ _ _ _ _ _ _ _ _ _ _ _ _ _ _ _ _ _ _ _ _ _ _ h8 _).mono (fun e w' h => by obtain ⟨rfl, hb⟩ := h; exact PlayQ.same hn hc hc2 hA hA2 hnn hB hB2 ⟨⟨y0, y1, y2, y3, y4, y5, y6, y7⟩, true, y8, false, ⟨0, 0, 0, 0, 0, 0⟩, false⟩ hb)
  · exact (play_1 _ _ _ _ _ _ _ _ _ _ _ _ _ _ _ _ _ _ _ _ _ _ _ _ _ _ _ _ _ _ _ _ _ _ _ _ _ _ _ _ _ h8 _).mono (fun e w' h => by obtain ⟨rfl, hb⟩ := h; exact PlayQ.same hn hc hc2 hA hA2 hnn hB hB2 ⟨⟨0, 0, false, 0, false, false, 0, 0⟩, false, false, false, ⟨0, 0, 0, 0, 0, 0⟩, false⟩ hb)
  · exact (play_2 _ _ _ _ _ _ _ _ _ _ _ _ _ _ _ _ _ _ _ _ _ _ _ _ _ _ _ _ _ _ _ _ _ _ _ _ _ _ _ _ _ h8 _).mono (fun e w' h => by obtain ⟨rfl, hb⟩ := h; exact PlayQ.same hn hc hc2 hA hA2 hnn hB hB2 ⟨⟨d0, d1, d2, d3, d4, d5, d6, d7⟩, d8, d9, d10, ⟨z0, z1, z2, z3, z4, z5⟩, true⟩ hb)
  · exact (play_3 _ _ _ _ _ _ _ _ _ _ _ _ _ _ _ _ _ _ _ _ _ _ _ _ _ _ _ _ _ _ _ _ _ _ _ _ _ _ _ _ _ h8 _).mono (fun e w' h => by obtain ⟨rfl, hb⟩ := h; exact PlayQ.same hn hc hc2 hA hA2 hnn hB hB2 ⟨⟨d0, d1, d2, d3, d4, d5, d6, d7⟩, d8, true, false, ⟨d11, d12, d13, d14, d15, d16⟩, d17⟩ hb)
  · exact (play_4 _ _ _ _ _ _ _ _ _ _ _ _ _ _ _ _ _ _ _ _ _ _ _ _ _ _ _ _ _ _ _ _ _ _ _ _ _ _ _ _ _ _ _ _ _ h8 hn hc hc2 hA hA2 hnn hl _ hB hB2).mono (fun e w' h => by
      obtain ⟨g1, cg1, g2, cg2, rfl, h1, h2, h3, h4, hb⟩ := h
      exact ⟨⟨⟨d0, d1, d2, d3, d4, d5, d6, d7⟩, d8, d9, d10, ⟨d11, d12, d13, d14, d15, d16⟩, d17⟩, _, _, n + 1, cg1, cg2, g1, 0, g2, 0, (ws ++ [(⟨z0, z1, z2, z3, z4, z5⟩ : In)]), rfl, Nat.le_refl _, by rw [List.length_append, hn]; rfl, h1, h2, fun _ => rfl, fun _ => rfl, (fun h => by cases h), fun _ => h3.2, fun _ => h4.2, fun _ => Or.inr h3.1, fun _ => Or.inr h4.1, hb⟩)
  · exact (play_5 _ _ _ _ _ _ _ _ _ _ _ _ _ _ _ _ _ _ _ _ _ _ _ _ _ _ _ _ _ _ _ _ _ _ _ _ _ _ _ _ _ _ _ _ _ h8 hn hc hc2 hA hA2 hnn hl _ hB hB2).mono (fun e w' h => by
      obtain ⟨g1, cg1, g2, cg2, rfl, h1, h2, h3, h4, hb⟩ := h
      exact ⟨⟨⟨d0, d1, d2, d3, d4, d5, d6, d7⟩, d8, d9, d10, ⟨d11, d12, d13, d14, d15, d16⟩, d17⟩, _, _, n + 1, cg1, cg2, g1, 0, g2, 0, (ws ++ [(⟨z0, z1, z2, z3, z4, z5⟩ : In)]), rfl, Nat.le_refl _, by rw [List.length_append, hn]; rfl, h1, h2, fun _ => rfl, fun _ => rfl, (fun h => by cases h), fun _ => h3.2, fun _ => h4.2, fun _ => Or.inr h3.1, fun _ => Or.inr h4.1, hb⟩)
  · cases d9
    · rcases Nat.eq_zero_or_pos n with h0 | h0
      · subst h0
        exact (play_6e _ _ _ _ _ _ _ _ _ _ _ _ _ _ _ _ _ _ _ _ _ _ _ _ _ _ _ _ _ _ _ _ _ _ _ _ _ _ h8 _).mono (fun e w' h => by obtain ⟨rfl, hb⟩ := h; exact PlayQ.same hn hc hc2 hA hA2 hnn hB hB2 ⟨⟨d0, d1, d2, d3, d4, d5, d6, d7⟩, d8, false, d10, ⟨d11, d12, d13, d14, d15, d16⟩, d17⟩ hb)
      · obtain rfl := hA h0
        obtain rfl := hA2 h0
        obtain ⟨x, hx⟩ : ∃ x, ws[0]? = some x := ⟨_, List.getElem?_eq_getElem (by rw [hn]; exact h0)⟩
        obtain ⟨i0, i1, i2, i3, i4, i5⟩ := x
        refine (play_6s _ _ _ _ _ _ _ _ _ _ _ _ _ _ _ _ _ _ _ _ _ _ _ _ _ _ _ _ _ _ _ _ _ _ _ _ _ _ _ _ _ _ _ _ _ _ _ _ _ _ _ _ h8 hn hc.1 hc2.1 hx (by omega) rfl rfl rfl rfl _ hB hB2).mono (fun e w' h => ?_)
        obtain ⟨rfl, hb⟩ := h
        refine ⟨⟨⟨d0, d1, d2, d3, d4, d5, d6, d7⟩, d8, (d10 && pressB i0), (d10 && !pressB i0), ⟨d11, d12, d13, d14, d15, d16⟩, d17⟩, tailA c b o, tailA c2 b2 o2, n - 1, c - 1, c2 - 1, b, o + 6, b2, o2 + 6, ws.drop 1, rfl, by omega, by rw [List.length_drop, hn], by omega, by omega, fun h => ?_, fun h => ?_, fun h => ?_, tail_row hB hb, tail_row hB2 hb, fun hne => Or.inl ⟨rfl, tail_ne hne⟩, fun hne => Or.inl ⟨rfl, tail_ne hne⟩, hb⟩
        · unfold tailA; rw [if_neg (by omega)]
        · unfold tailA; rw [if_neg (by omega)]
        · unfold tailA at h
          split at h <;> cases h
    · exact (play_6f _ _ _ _ _ _ _ _ _ _ _ _ _ _ _ _ _ _ _ _ _ _ _ _ _ _ _ _ _ _ _ _ _ _ _ _ _ _ _ _ h8 _).mono (fun e w' h => by obtain ⟨rfl, hb⟩ := h; exact PlayQ.same hn hc hc2 hA hA2 hnn hB hB2 ⟨⟨d0, d1, d2, d3, d4, d5, d6, d7⟩, d8, true, d10, ⟨d11, d12, d13, d14, d15, d16⟩, d17⟩ hb)
  · cases d9
    · exact (play_7nf _ _ _ _ _ _ _ _ _ _ _ _ _ _ _ _ _ _ _ _ _ _ _ _ _ _ _ _ _ _ _ _ _ _ _ _ _ _ _ _ h8 _).mono (fun e w' h => by obtain ⟨rfl, hb⟩ := h; exact PlayQ.same hn hc hc2 hA hA2 hnn hB hB2 ⟨⟨d0, d1, d2, d3, d4, d5, d6, d7⟩, d8, false, d10, ⟨d11, d12, d13, d14, d15, d16⟩, d17⟩ hb)
    · by_cases hneg : y9 < 0
      · exact (play_7neg _ _ _ _ _ _ _ _ _ _ _ _ _ _ _ _ _ _ _ _ _ _ _ _ _ _ _ _ _ _ _ _ _ _ _ _ _ _ _ _ h8 hneg _).mono (fun e w' h => by obtain ⟨rfl, hb⟩ := h; exact PlayQ.same hn hc hc2 hA hA2 hnn hB hB2 ⟨⟨d0, d1, d2, d3, d4, d5, d6, d7⟩, d8, true, d10, ⟨d11, d12, d13, d14, d15, d16⟩, d17⟩ hb)
      · by_cases hbig : 3 ≤ y9
        · exact (play_7big _ _ _ _ _ _ _ _ _ _ _ _ _ _ _ _ _ _ _ _ _ _ _ _ _ _ _ _ _ _ _ _ _ _ _ _ _ _ _ _ h8 hbig _).mono (fun e w' h => by obtain ⟨rfl, hb⟩ := h; exact PlayQ.same hn hc hc2 hA hA2 hnn hB hB2 ⟨⟨d0, d1, d2, d3, d4, d5, d6, d7⟩, d8, true, d10, ⟨d11, d12, d13, d14, d15, d16⟩, d17⟩ hb)
        · rcases (by omega : y9 = 0 ∨ y9 = 1 ∨ y9 = 2) with rfl | rfl | rfl
          · exact (play_7a _ _ _ _ _ _ _ _ _ _ _ _ _ _ _ _ _ _ _ _ _ _ _ _ _ _ _ _ _ _ _ _ _ _ _ _ _ _ _ h8 _).mono (fun e w' h => by obtain ⟨rfl, hb⟩ := h; exact PlayQ.same hn hc hc2 hA hA2 hnn hB hB2 ⟨⟨d0, d1, d2, d3, d4, d5, d6, d7⟩, d8, false, false, ⟨0, 0, 0, 0, 0, 0⟩, false⟩ hb)
          · exact (play_7s _ _ _ _ _ _ _ _ _ _ _ _ _ _ _ _ _ _ _ _ _ _ _ _ _ _ _ _ _ _ _ _ _ _ _ _ _ _ _ h8 _).mono (fun e w' h => by obtain ⟨rfl, hb⟩ := h; exact PlayQ.same hn hc hc2 hA hA2 hnn hB hB2 ⟨⟨d0, d1, d2, d3, d4, d5, d6, d7⟩, d8, false, true, ⟨0, 0, 0, 0, 0, 0⟩, false⟩ hb)
          · cases d17
            · exact (play_7x _ _ _ _ _ _ _ _ _ _ _ _ _ _ _ _ _ _ _ _ _ _ _ _ _ _ _ _ _ _ _ _ _ _ _ _ _ _ h8 _).mono (fun e w' h => by obtain ⟨rfl, hb⟩ := h; exact PlayQ.same hn hc hc2 hA hA2 hnn hB hB2 ⟨⟨d0, d1, d2, d3, d4, d5, d6, d7⟩, d8, true, d10, ⟨d11, d12, d13, d14, d15, d16⟩, false⟩ hb)
            · cases d8
              · exact (play_7y _ _ _ _ _ _ _ _ _ _ _ _ _ _ _ _ _ _ _ _ _ _ _ _ _ _ _ _ _ _ _ _ _ _ _ _ _ h8 _).mono (fun e w' h => by obtain ⟨rfl, hb⟩ := h; exact PlayQ.same hn hc hc2 hA hA2 hnn hB hB2 ⟨⟨d0, d1, d2, d3, d4, d5, d6, d7⟩, false, true, d10, ⟨d11, d12, d13, d14, d15, d16⟩, true⟩ hb)
              · exact (play_7r _ _ _ _ _ _ _ _ _ _ _ _ _ _ _ _ _ _ _ _ _ _ _ _ _ _ _ _ _ _ _ _ _ _ _ _ _ h8 _).mono (fun e w' h => by obtain ⟨rfl, hb⟩ := h; exact PlayQ.same hn hc hc2 hA hA2 hnn hB hB2 ⟨⟨0, 0, false, 0, false, false, 0, 0⟩, false, false, false, ⟨0, 0, 0, 0, 0, 0⟩, false⟩ hb)
end Go.Proofs.Ytgcedookbblibaa
