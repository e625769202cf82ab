/- Layer 38: lists of grabs; what a function value picks out of one. -/
import Derived.Test.YtmcndiljldbkcaaPs2
namespace Go.Proofs.Ytmcndiljldbkcaa
open Go Go.RowKit
set_option linter.unusedSimpArgs false
set_option linter.unusedVariables false
def LayG (w : World) (b off : Nat) (gs : List G) : Prop := ∀ (k : Nat) (x : G), gs[k]? = some x → ∀ (j : Nat) (u : Value), (gL x)[j]? = some u → w.cell? ⟨b, off + k * 9 + j, none⟩ = some u
theorem LayG.below {w w' : World} {b off : Nat} {gs : List G} (h : LayG w b off gs) (hb : Below w.heap.size w w') : LayG w' b off gs := fun k x hk j u hj => cell_below hb (h k x hk j u hj)
def IsG (w : World) (v : Value) (gs : List G) : Prop :=
  ∃ A cap, v = .slice A gs.length cap ∧ (0 < gs.length → ∃ b off, A = some ⟨b, off, none⟩ ∧ b < w.heap.size ∧ LayG w b off gs)
theorem IsG.below {w w' : World} {v : Value} {gs : List G} (h : IsG w v gs) (hb : Below w.heap.size w w') : IsG w' v gs := by
  obtain ⟨A, cap, rfl, hf⟩ := h
  refine ⟨A, cap, rfl, fun h0 => ?_⟩
  obtain ⟨b, off, rfl, h1, h2⟩ := hf h0
  exact ⟨b, off, rfl, Nat.lt_of_lt_of_le h1 hb.size, h2.below hb⟩
theorem IsG.nil (w : World) : IsG w (.slice none 0 0) [] := ⟨none, 0, rfl, fun h => by simp at h⟩
def IdxIs (p : G → Bool) (gs : List G) (r : Int) : Prop :=
  (r = -1 ∧ ∀ x ∈ gs, p x = false) ∨ ∃ (k : Nat) (x : G), r = (k : Int) ∧ gs[k]? = some x ∧ p x = true ∧ ∀ (j : Nat) (y : G), j < k → gs[j]? = some y → p y = false
theorem no_more {p : G → Bool} {gs : List G} {k : Nat} {x : G} (h : ∀ (j : Nat) (y : G), j < k → gs[j]? = some y → p y = false) (hx : gs[k]? = some x) (hp : p x = false) : ∀ (j : Nat) (y : G), j < k + 1 → gs[j]? = some y → p y = false := by
  intro j y hj hy
  rcases (by omega : j < k ∨ j = k) with h1 | rfl
  · exact h j y h1 hy
  · rw [hx] at hy; cases hy; exact hp
set_option maxRecDepth 100000 in
set_option maxHeartbeats 4000000 in
theorem index_a (cb : Nat) (p : G → Bool) (gs : List G) (v : Value) (w : World) (hv : IsG w v gs) (hl : gs.length ≤ 1000)
    (hF : ∀ W x, Below w.heap.size w W → Calls Try.prog 32 #[gV x, .pointer (some ⟨cb, 0, none⟩)] W fun e w' => e = .returned (.bool (p x)) ∧ Below W.heap.size W w') :
    Calls Try.prog 27 #[v, .func (.func 32) #[] #[.pointer (some ⟨cb, 0, none⟩)]] w fun e w' => ∃ r : Int, e = .returned (i6 r) ∧ IdxIs p gs r ∧ Below w.heap.size w w' := by
  obtain ⟨A, cap, rfl, hf⟩ := hv
  have HF := Lib.hid hf
  have HC := Lib.hid hF
  clear hf hF
  obtain ⟨n, hn⟩ : ∃ n, gs.length = n := ⟨_, rfl⟩
  rw [hn] at HF hl ⊢
  have HN := Lib.hid hn
  clear hn
  go_enter Try.func27, Try.ntmps27
  go_wp2_with fail
  go_loopw [8] (fun i wr => ∃ k : Nat, k ≤ n ∧ i = .int .i64 k ∧ Hid (∀ (j : Nat) (y : G), j < k → gs[j]? = some y → p y = false) ∧ Below w.heap.size w wr)
    (fun i _ => n - (intOf i).toNat)
  case atStart => exact ⟨0, by omega, rfl, Lib.hid (fun j y hj => by omega), Below.refl _ _⟩
  case round =>
    obtain ⟨k, hk, rfl, hno, hq⟩ := hrel
    by_cases hlt : k < n
    · obtain ⟨b, off, rfl, hb, hlay⟩ := HF.out (by omega)
      obtain ⟨x, hx⟩ : ∃ x, gs[k]? = some x := ⟨_, List.getElem?_eq_getElem (by rw [HN.out]; exact hlt)⟩
      have hlx := fun j u hj => cell_below hq (hlay k x hx j u hj)
      have d0 := hlx 0 _ rfl
      rw [Nat.add_zero] at d0
      have d1 := hlx 1 _ rfl
      have d2 := hlx 2 _ rfl
      have d3 := hlx 3 _ rfl
      have d4 := hlx 4 _ rfl
      have d5 := hlx 5 _ rfl
      have d6 := hlx 6 _ rfl
      have d7 := hlx 7 _ rfl
      have d8 := hlx 8 _ rfl
      have HX := Lib.hid hx
      have hki : (k : Int) < (n : Int) := by omega
      clear hlx hlay hx
      go_wp2_with fail
      refine (HC.out _ x hq).mono ?_
      rintro e w1 ⟨rfl, hb1⟩
      have hq1 := q_step hq hb1
      clear d0 d1 d2 d3 d4 d5 d6 d7 d8 hq hb1
      cases hp : p x with
      | false =>
        have HM := Lib.hid (no_more hno.out HX.out hp)
        clear hno hp
        go_wp2_with fail
        go_roundw
        case rel => exact ⟨k + 1, by omega, by go_num, HM, hq1⟩
        case measure => simp [intOf] <;> omega
      | true =>
        have HR : Hid (IdxIs p gs (k : Int)) := Lib.hid (Or.inr ⟨k, x, rfl, HX.out, hp, hno.out⟩)
        clear hno hp
        go_wp2_with fail
        go_returns
        exact ⟨_, rfl, HR.out, hq1⟩
    · obtain rfl : k = n := by omega
      have HR : Hid (IdxIs p gs (-1)) := Lib.hid (Or.inl ⟨rfl, fun x hx => by
        obtain ⟨j, hj, e⟩ := List.getElem_of_mem hx
        exact hno.out j x (by rw [← HN.out]; exact hj) (by rw [List.getElem?_eq_getElem hj, e])⟩)
      clear hno
      go_wp2_with fail
      go_returns
      exact ⟨_, rfl, HR.out, hq⟩
theorem idx_nonneg {p : G → Bool} {gs : List G} {r : Int} (h : IdxIs p gs r) : decide (0 ≤ r) = gs.any p := by
  rcases h with ⟨rfl, h⟩ | ⟨k, x, rfl, hx, hp, _⟩
  · rw [List.any_eq_false.2 (by simpa using h)]; rfl
  · rw [List.any_eq_true.2 ⟨x, List.mem_of_getElem? hx, hp⟩]; simp
set_option maxRecDepth 100000 in
theorem contains_a (cb : Nat) (p : G → Bool) (gs : List G) (v : Value) (w : World) (hv : IsG w v gs) (hl : gs.length ≤ 1000)
    (hF : ∀ W x, Below w.heap.size w W → Calls Try.prog 32 #[gV x, .pointer (some ⟨cb, 0, none⟩)] W fun e w' => e = .returned (.bool (p x)) ∧ Below W.heap.size W w') :
    Calls Try.prog 31 #[v, .func (.func 32) #[] #[.pointer (some ⟨cb, 0, none⟩)]] w fun e w' => e = .returned (.bool (gs.any p)) ∧ Below w.heap.size w w' := by
  have HF := Lib.hid hF
  have HV := Lib.hid hv
  clear hF hv
  go_enter Try.func31, Try.ntmps31
  go_wp2_with fail
  refine (index_a cb p gs v _ HV.out hl HF.out).mono ?_
  rintro e w1 ⟨r, rfl, hr, hb⟩
  have HR := Lib.hid (idx_nonneg hr)
  clear hr
  go_wp2_with fail
  go_returns
  exact ⟨by rw [← HR.out] <;> first | rfl | simp, hb⟩
set_option maxRecDepth 100000 in
set_option maxHeartbeats 4000000 in
theorem index_b (cb : Nat) (p : G → Bool) (gs : List G) (v : Value) (w : World) (hv : IsG w v gs) (hl : gs.length ≤ 1000)
    (hF : ∀ W x, Below w.heap.size w W → Calls Try.prog 33 #[gV x, .pointer (some ⟨cb, 0, none⟩)] W fun e w' => e = .returned (.bool (p x)) ∧ Below W.heap.size W w') :
    Calls Try.prog 27 #[v, .func (.func 33) #[] #[.pointer (some ⟨cb, 0, none⟩)]] w fun e w' => ∃ r : Int, e = .returned (i6 r) ∧ IdxIs p gs r ∧ Below w.heap.size w w' := by
  obtain ⟨A, cap, rfl, hf⟩ := hv
  have HF := Lib.hid hf
  have HC := Lib.hid hF
  clear hf hF
  obtain ⟨n, hn⟩ : ∃ n, gs.length = n := ⟨_, rfl⟩
  rw [hn] at HF hl ⊢
  have HN := Lib.hid hn
  clear hn
  go_enter Try.func27, Try.ntmps27
  go_wp2_with fail
  go_loopw [8] (fun i wr => ∃ k : Nat, k ≤ n ∧ i = .int .i64 k ∧ Hid (∀ (j : Nat) (y : G), j < k → gs[j]? = some y → p y = false) ∧ Below w.heap.size w wr)
    (fun i _ => n - (intOf i).toNat)
  case atStart => exact ⟨0, by omega, rfl, Lib.hid (fun j y hj => by omega), Below.refl _ _⟩
  case round =>
    obtain ⟨k, hk, rfl, hno, hq⟩ := hrel
    by_cases hlt : k < n
    · obtain ⟨b, off, rfl, hb, hlay⟩ := HF.out (by omega)
      obtain ⟨x, hx⟩ : ∃ x, gs[k]? = some x := ⟨_, List.getElem?_eq_getElem (by rw [HN.out]; exact hlt)⟩
      have hlx := fun j u hj => cell_below hq (hlay k x hx j u hj)
      have d0 := hlx 0 _ rfl
      rw [Nat.add_zero] at d0
      have d1 := hlx 1 _ rfl
      have d2 := hlx 2 _ rfl
      have d3 := hlx 3 _ rfl
      have d4 := hlx 4 _ rfl
      have d5 := hlx 5 _ rfl
      have d6 := hlx 6 _ rfl
      have d7 := hlx 7 _ rfl
      have d8 := hlx 8 _ rfl
      have HX := Lib.hid hx
      have hki : (k : Int) < (n : Int) := by omega
      clear hlx hlay hx
      go_wp2_with fail
      refine (HC.out _ x hq).mono ?_
      rintro e w1 ⟨rfl, hb1⟩
      have hq1 := q_step hq hb1
      clear d0 d1 d2 d3 d4 d5 d6 d7 d8 hq hb1
      cases hp : p x with
      | false =>
        have HM := Lib.hid (no_more hno.out HX.out hp)
        clear hno hp
        go_wp2_with fail
        go_roundw
        case rel => exact ⟨k + 1, by omega, by go_num, HM, hq1⟩
        case measure => simp [intOf] <;> omega
      | true =>
        have HR : Hid (IdxIs p gs (k : Int)) := Lib.hid (Or.inr ⟨k, x, rfl, HX.out, hp, hno.out⟩)
        clear hno hp
        go_wp2_with fail
        go_returns
        exact ⟨_, rfl, HR.out, hq1⟩
    · obtain rfl : k = n := by omega
      have HR : Hid (IdxIs p gs (-1)) := Lib.hid (Or.inl ⟨rfl, fun x hx => by
        obtain ⟨j, hj, e⟩ := List.getElem_of_mem hx
        exact hno.out j x (by rw [← HN.out]; exact hj) (by rw [List.getElem?_eq_getElem hj, e])⟩)
      clear hno
      go_wp2_with fail
      go_returns
      exact ⟨_, rfl, HR.out, hq⟩
set_option maxRecDepth 100000 in
set_option maxHeartbeats 4000000 in
theorem index_f (c1 c2 c3 c4 : Nat) (p : G → Bool) (gs : List G) (v : Value) (w : World) (hv : IsG w v gs) (hl : gs.length ≤ 1000)
    (hF : ∀ W x, Below w.heap.size w W → Calls Try.prog 28 #[gV x, .pointer (some ⟨c1, 0, none⟩), .pointer (some ⟨c2, 0, none⟩), .pointer (some ⟨c3, 0, none⟩), .pointer (some ⟨c4, 0, none⟩)] W fun e w' => e = .returned (.bool (p x)) ∧ Below W.heap.size W w') :
    Calls Try.prog 27 #[v, .func (.func 28) #[] #[.pointer (some ⟨c1, 0, none⟩), .pointer (some ⟨c2, 0, none⟩), .pointer (some ⟨c3, 0, none⟩), .pointer (some ⟨c4, 0, none⟩)]] w fun e w' => ∃ r : Int, e = .returned (i6 r) ∧ IdxIs p gs r ∧ Below w.heap.size w w' := by
  obtain ⟨A, cap, rfl, hf⟩ := hv
  have HF := Lib.hid hf
  have HC := Lib.hid hF
  clear hf hF
  obtain ⟨n, hn⟩ : ∃ n, gs.length = n := ⟨_, rfl⟩
  rw [hn] at HF hl ⊢
  have HN := Lib.hid hn
  clear hn
  go_enter Try.func27, Try.ntmps27
  go_wp2_with fail
  go_loopw [8] (fun i wr => ∃ k : Nat, k ≤ n ∧ i = .int .i64 k ∧ Hid (∀ (j : Nat) (y : G), j < k → gs[j]? = some y → p y = false) ∧ Below w.heap.size w wr)
    (fun i _ => n - (intOf i).toNat)
  case atStart => exact ⟨0, by omega, rfl, Lib.hid (fun j y hj => by omega), Below.refl _ _⟩
  case round =>
    obtain ⟨k, hk, rfl, hno, hq⟩ := hrel
    by_cases hlt : k < n
    · obtain ⟨b, off, rfl, hb, hlay⟩ := HF.out (by omega)
      obtain ⟨x, hx⟩ : ∃ x, gs[k]? = some x := ⟨_, List.getElem?_eq_getElem (by rw [HN.out]; exact hlt)⟩
      have hlx := fun j u hj => cell_below hq (hlay k x hx j u hj)
      have d0 := hlx 0 _ rfl
      rw [Nat.add_zero] at d0
      have d1 := hlx 1 _ rfl
      have d2 := hlx 2 _ rfl
      have d3 := hlx 3 _ rfl
      have d4 := hlx 4 _ rfl
      have d5 := hlx 5 _ rfl
      have d6 := hlx 6 _ rfl
      have d7 := hlx 7 _ rfl
      have d8 := hlx 8 _ rfl
      have HX := Lib.hid hx
      have hki : (k : Int) < (n : Int) := by omega
      clear hlx hlay hx
      go_wp2_with fail
      refine (HC.out _ x hq).mono ?_
      rintro e w1 ⟨rfl, hb1⟩
      have hq1 := q_step hq hb1
      clear d0 d1 d2 d3 d4 d5 d6 d7 d8 hq hb1
      cases hp : p x with
      | false =>
        have HM := Lib.hid (no_more hno.out HX.out hp)
        clear hno hp
        go_wp2_with fail
        go_roundw
        case rel => exact ⟨k + 1, by omega, by go_num, HM, hq1⟩
        case measure => simp [intOf] <;> omega
      | true =>
        have HR : Hid (IdxIs p gs (k : Int)) := Lib.hid (Or.inr ⟨k, x, rfl, HX.out, hp, hno.out⟩)
        clear hno hp
        go_wp2_with fail
        go_returns
        exact ⟨_, rfl, HR.out, hq1⟩
    · obtain rfl : k = n := by omega
      have HR : Hid (IdxIs p gs (-1)) := Lib.hid (Or.inl ⟨rfl, fun x hx => by
        obtain ⟨j, hj, e⟩ := List.getElem_of_mem hx
        exact hno.out j x (by rw [← HN.out]; exact hj) (by rw [List.getElem?_eq_getElem hj, e])⟩)
      clear hno
      go_wp2_with fail
      go_returns
      exact ⟨_, rfl, HR.out, hq⟩
end Go.Proofs.Ytmcndiljldbkcaa
