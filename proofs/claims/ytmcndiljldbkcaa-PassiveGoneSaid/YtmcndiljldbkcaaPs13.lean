/- Layer 38: two right grabs of one window cross just if some press activates both. -/
import Derived.Test.YtmcndiljldbkcaaPs12
namespace Go.Proofs.Ytmcndiljldbkcaa
open Go Go.RowKit
def pB (x y : G) (b : Bool) (c m : Int) : Bool := decide (1 ≤ c) && decide (m ≤ 255) && ractB b c m x && ractB b c m y
def inB (x y : G) (b : Bool) (c : Int) (ms : List Int) : Bool := ms.any fun m => pB x y b c m
def outB (x y : G) (b : Bool) (cs ms : List Int) : Bool := cs.any fun c => inB x y b c ms
theorem in_step (x y : G) (b : Bool) (c : Int) {ms : List Int} {k : Nat} {u : Int} (h : ms[k]? = some u) : inB x y b c (ms.take (k + 1)) = (inB x y b c (ms.take k) || pB x y b c u) := by
  unfold inB
  rw [List.take_add_one, h, List.any_append]; simp
theorem out_step (x y : G) (b : Bool) {cs : List Int} (ms : List Int) {k : Nat} {u : Int} (h : cs[k]? = some u) : outB x y b (cs.take (k + 1)) ms = (outB x y b (cs.take k) ms || inB x y b u ms) := by
  unfold outB
  rw [List.take_add_one, h, List.any_append]; simp
theorem code_ex (a b : Int) (ha : 0 ≤ a) (hb : 0 ≤ b) : (a = b ∨ a = 0 ∨ b = 0) ↔ ∃ c, (c = a ∨ c = b ∨ c = 1) ∧ 1 ≤ c ∧ (a = c ∨ a = 0) ∧ (b = c ∨ b = 0) := by
  constructor
  · intro h
    by_cases h1 : a = 0
    · by_cases h2 : b = 0
      · exact ⟨1, by omega, by omega, by omega, by omega⟩
      · exact ⟨b, by omega, by omega, by omega, by omega⟩
    · exact ⟨a, by omega, by omega, by omega, by omega⟩
  · rintro ⟨c, h1, h2, h3, h4⟩
    omega
theorem mods_ex (a b : Int) (ha : a = 32768 ∨ 0 ≤ a ∧ a ≤ 255) (hb : b = 32768 ∨ 0 ≤ b ∧ b ≤ 255) : (a = b ∨ a = 32768 ∨ b = 32768) ↔ ∃ m, (m = a ∨ m = b ∨ m = 0) ∧ m ≤ 255 ∧ (a = m ∨ a = 32768) ∧ (b = m ∨ b = 32768) := by
  constructor
  · intro h
    by_cases h1 : a = 32768
    · by_cases h2 : b = 32768
      · exact ⟨0, by omega, by omega, by omega, by omega⟩
      · exact ⟨b, by omega, by omega, by omega, by omega⟩
    · exact ⟨a, by omega, by omega, by omega, by omega⟩
  · rintro ⟨c, h1, h2, h3, h4⟩
    omega
theorem press_meet (x y : G) (hx : RightG x) (hy : RightG y) (hw : x.wi = y.wi) (hb : x.bu = y.bu) : outB x y x.bu [x.co, y.co, 1] [x.mo, y.mo, 0] = meetG x y := by
  have hc := code_ex x.co y.co hx.co.1 hy.co.1
  have hm := mods_ex x.mo y.mo hx.mo hy.mo
  have e : meetG x y = (meetsB x.co y.co 0 && meetsB x.mo y.mo 32768) := by unfold meetG; rw [hw, hb]; simp
  have f : outB x y x.bu [x.co, y.co, 1] [x.mo, y.mo, 0] = true ↔ ∃ c m, (c = x.co ∨ c = y.co ∨ c = 1) ∧ (m = x.mo ∨ m = y.mo ∨ m = 0) ∧ pB x y x.bu c m = true := by
    unfold outB inB
    rw [List.any_eq_true]
    constructor
    · rintro ⟨c, hc1, hc2⟩
      rw [List.any_eq_true] at hc2
      obtain ⟨m, hm1, hm2⟩ := hc2
      exact ⟨c, m, by simpa using hc1, by simpa using hm1, hm2⟩
    · rintro ⟨c, m, h1, h2, h3⟩
      exact ⟨c, by simpa using h1, List.any_eq_true.2 ⟨m, by simpa using h2, h3⟩⟩
  have g : ∀ c m, pB x y x.bu c m = true ↔ (1 ≤ c ∧ (x.co = c ∨ x.co = 0) ∧ (y.co = c ∨ y.co = 0)) ∧ m ≤ 255 ∧ (x.mo = m ∨ x.mo = 32768) ∧ (y.mo = m ∨ y.mo = 32768) := by
    intro c m
    unfold pB ractB
    rw [← hb]
    simp only [Bool.and_eq_true, Bool.or_eq_true, decide_eq_true_eq, beq_self_eq_true, true_and]
    constructor
    · rintro ⟨⟨⟨h1, h2⟩, h3, h4⟩, h5, h6⟩; exact ⟨⟨h1, h3, h5⟩, h2, h4, h6⟩
    · rintro ⟨⟨h1, h3, h5⟩, h2, h4, h6⟩; exact ⟨⟨⟨h1, h2⟩, h3, h4⟩, h5, h6⟩
  rw [e, Bool.eq_iff_iff, f]
  unfold meetsB
  simp only [Bool.and_eq_true, Bool.or_eq_true, decide_eq_true_eq, or_assoc]
  rw [hc, hm]
  constructor
  · rintro ⟨c, m, h1, h2, h3⟩
    obtain ⟨k1, k2⟩ := (g c m).1 h3
    exact ⟨⟨c, h1, k1⟩, m, h2, k2⟩
  · rintro ⟨⟨c, h1, k1⟩, m, h2, k2⟩
    exact ⟨c, m, h1, h2, (g c m).2 ⟨k1, k2⟩⟩
theorem ract9 (a0 a1 : Int) (a2 : Bool) (a3 a4 : Int) (a5 : Bool) (a6 a7 a8 : Int) (b : Bool) (c m : Int) (w : World) : Calls Try.prog 20 #[.agg #[i6 a0, u3 a1, .bool a2, i6 a3, i6 a4, .bool a5, i6 a6, i6 a7, i6 a8], .bool b, i6 c, i6 m] w fun e w' => e = .returned (.bool (ractB b c m ⟨a0, a1, a2, a3, a4, a5, a6, a7, a8⟩)) ∧ Below w.heap.size w w' := ract_any ⟨a0, a1, a2, a3, a4, a5, a6, a7, a8⟩ b c m w
theorem press_tab (x y : G) (hx : RightG x) (hy : RightG y) (hw : x.wi = y.wi) (hb : x.bu = y.bu) : ∃ (OB : Nat → Bool) (XB : Nat → Nat → Bool), OB 0 = false ∧ (∀ k, k < 3 → XB k 0 = OB k ∧ XB k 3 = OB (k + 1)) ∧
    (∀ k j c m, ([x.co, y.co, 1] : List Int)[k]? = some c → ([x.mo, y.mo, 0] : List Int)[j]? = some m → XB k (j + 1) = (XB k j || pB x y x.bu c m)) ∧ OB 3 = meetG x y := by
  refine ⟨fun k => outB x y x.bu (([x.co, y.co, 1] : List Int).take k) [x.mo, y.mo, 0], fun k j => outB x y x.bu (([x.co, y.co, 1] : List Int).take k) [x.mo, y.mo, 0] || inB x y x.bu (([x.co, y.co, 1] : List Int).getD k 0) (([x.mo, y.mo, 0] : List Int).take j), rfl, ?_, ?_, ?_⟩
  · intro k hk
    refine ⟨by simp [inB], ?_⟩
    have hc : ([x.co, y.co, 1] : List Int)[k]? = some (([x.co, y.co, 1] : List Int).getD k 0) := by
      rw [List.getD_eq_getElem?_getD, List.getElem?_eq_getElem (by simpa using hk)]; rfl
    exact (out_step x y x.bu _ hc).symm
  · intro k j c m hc hm
    have hg : ([x.co, y.co, 1] : List Int).getD k 0 = c := by rw [List.getD_eq_getElem?_getD, hc]; rfl
    dsimp only
    rw [hg, in_step x y x.bu c hm, Bool.or_assoc]
  · exact press_meet x y hx hy hw hb
theorem meet9 (a0 a1 : Int) (a2 : Bool) (a3 a4 : Int) (a5 : Bool) (a6 a7 a8 : Int) (b0 b1 : Int) (b2 : Bool) (b3 b4 : Int) (b5 : Bool) (b6 b7 b8 : Int) (M : Bool) (hM : meetG ⟨a0, a1, a2, a3, a4, a5, a6, a7, a8⟩ ⟨b0, b1, b2, b3, b4, b5, b6, b7, b8⟩ = M) (w : World) : Calls Try.prog 18 #[.agg #[i6 a0, u3 a1, .bool a2, i6 a3, i6 a4, .bool a5, i6 a6, i6 a7, i6 a8], .agg #[i6 b0, u3 b1, .bool b2, i6 b3, i6 b4, .bool b5, i6 b6, i6 b7, i6 b8]] w fun e w' => e = .returned (.bool M) ∧ Below w.heap.size w w' := by
  subst hM
  exact meet_any ⟨a0, a1, a2, a3, a4, a5, a6, a7, a8⟩ ⟨b0, b1, b2, b3, b4, b5, b6, b7, b8⟩ w
end Go.Proofs.Ytmcndiljldbkcaa
