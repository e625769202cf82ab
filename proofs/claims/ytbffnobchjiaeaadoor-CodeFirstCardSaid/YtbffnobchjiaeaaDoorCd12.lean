/- Layer 3: the code of a name; the program's forms of codes. -/
import Derived.Test.YtbffnobchjiaeaaDoorCd11
namespace Go.Proofs.YtbffnobchjiaeaaDoor
open Go Go.RowKit
set_option linter.unusedSimpArgs false
set_option linter.unusedVariables false
theorem getD_mem {l : List E3} {k : Nat} (h : k < l.length) : l.getD k zeroE ∈ l := by
  simp only [List.getD, List.getElem?_eq_getElem h, Option.getD_some]; exact List.getElem_mem h
theorem tab_n : winT.length = 16 ∧ drawT.length = 20 ∧ handT.length = 22 ∧ evT.length = 25 := by decide +kernel
theorem reqT_mem (n : Int) (h1 : 1 ≤ n) (h2 : n ≤ 58) : reqT n ∈ winT ++ drawT ++ handT ++ evT := by
  obtain ⟨t1, t2, t3, t4⟩ := tab_n
  unfold reqT
  rw [if_neg (by omega)]
  split
  · have := getD_mem (l := winT) (k := (n - 1).toNat) (by omega)
    simp only [List.mem_append]; exact Or.inl (Or.inl (Or.inl this))
  · split
    · have := getD_mem (l := drawT) (k := (n - 17).toNat) (by omega)
      simp only [List.mem_append]; exact Or.inl (Or.inl (Or.inr this))
    · have := getD_mem (l := handT) (k := (n - 37).toNat) (by omega)
      simp only [List.mem_append]; exact Or.inl (Or.inr this)
theorem eveT_mem (n : Int) (h1 : 1 ≤ n) (h2 : n ≤ 25) : eveT n ∈ winT ++ drawT ++ handT ++ evT := by
  obtain ⟨t1, t2, t3, t4⟩ := tab_n
  unfold eveT
  rw [if_neg (by omega)]
  have := getD_mem (l := evT) (k := (n - 1).toNat) (by omega)
  simp only [List.mem_append]; exact Or.inr this
/-- What a name's code is. -/
def OfIs (s : B8) (r : Int) : Prop := r = 0 ∧ (∀ j : Nat, j < 58 → (reqT ((j : Int) + 1)).1 ≠ s) ∨ 1 ≤ r ∧ r ≤ 58 ∧ (reqT r).1 = s
theorem names_inj (i j : Nat) (hi : i < 58) (hj : j < 58) (h : (reqT ((i : Int) + 1)).1 = (reqT ((j : Int) + 1)).1) : i = j := by
  have h1 := (List.all_eq_true.1 ((List.all_eq_true.1 names_ne) i (by simpa using hi))) j (by simpa using hj)
  unfold eqNames at h1
  simp only [Bool.or_eq_true, beq_iff_eq, Bool.not_eq_true', beq_eq_false_iff_ne] at h1
  exact h1.resolve_right fun hne => hne h
theorem OfIs.uniq {s : B8} {r r' : Int} (h : OfIs s r) (h' : OfIs s r') : r = r' := by
  rcases h with ⟨rfl, h⟩ | ⟨h1, h2, h3⟩
  · rcases h' with ⟨rfl, _⟩ | ⟨k1, k2, k3⟩
    · rfl
    · exfalso
      refine h (r' - 1).toNat (by omega) ?_
      rw [show (((r' - 1).toNat : Nat) : Int) + 1 = r' by omega]; exact k3
  · rcases h' with ⟨rfl, h'⟩ | ⟨k1, k2, k3⟩
    · exfalso
      refine h' (r - 1).toNat (by omega) ?_
      rw [show (((r - 1).toNat : Nat) : Int) + 1 = r by omega]; exact h3
    · have := names_inj (r - 1).toNat (r' - 1).toNat (by omega) (by omega) (by
        rw [show (((r - 1).toNat : Nat) : Int) + 1 = r by omega, show (((r' - 1).toNat : Nat) : Int) + 1 = r' by omega, h3, k3])
      omega
set_option maxRecDepth 100000 in
set_option maxHeartbeats 2000000 in
theorem of_any (s : B8) (w : World) : Calls Tryd.prog 17 #[strV s] w fun e w' => ∃ r : Int, e = .returned (.tuple #[i6 r, .bool (decide (0 < r))]) ∧ OfIs s r ∧ Below w.heap.size w w' := by
  by_cases h0 : s = []
  · subst h0
    go_enter Tryd.func17, Tryd.ntmps17
    go_wp2_with fail
    go_returns
    exact ⟨0, rfl, Or.inl ⟨rfl, fun j hj => (tab_fact (reqT_mem _ (by omega) (by omega))).2.1⟩, Below.refl _ _⟩
  · have e0 : (s == []) = false := by simpa using h0
    clear h0
    go_enter Tryd.func17, Tryd.ntmps17
    go_wp2_with fail
    go_loopw [4] (fun i wr => ∃ k : Nat, k ≤ 58 ∧ i = .int .i64 ((k : Int) + 1) ∧ Hid (∀ j : Nat, j < k → (reqT ((j : Int) + 1)).1 ≠ s) ∧ Below w.heap.size w wr) (fun i _ => 59 - (intOf i).toNat)
    case atStart => exact ⟨0, by omega, rfl, Lib.hid (fun j hj => by omega), Below.refl _ _⟩
    case round =>
      obtain ⟨k, hk, rfl, hno, hq⟩ := hrel
      by_cases hlt : k < 58
      · go_wp2_with fail
        refine (request_any _ _).mono ?_
        rintro e w1 ⟨rfl, hb⟩
        have hq1 := q_step hq hb
        clear hq hb
        by_cases hes : (reqT ((k : Int) + 1)).1 = s
        · have HO : Hid (OfIs s ((k : Int) + 1)) := Lib.hid (Or.inr ⟨by omega, by omega, hes⟩)
          generalize reqT ((k : Int) + 1) = en at hes ⊢
          have hfd : ∀ w, (Instr.field 44 (eV en) 0).run Tryd.prog w = .ok (strV en.1) w := fun _ => by kernel_rfl
          have hee : (en.1 == s) = true := by simpa using hes
          clear hes
          go_wp2_with fail
          go_returns
          exact ⟨_, by first | rfl | (simp; done) | (simp; omega), HO.out, hq1⟩
        · have HN : Hid (∀ j : Nat, j < k + 1 → (reqT ((j : Int) + 1)).1 ≠ s) := Lib.hid (fun j hj => by
            rcases (by omega : j < k ∨ j = k) with h | rfl
            · exact hno.out j h
            · exact hes)
          generalize reqT ((k : Int) + 1) = en at hes ⊢
          have hfd : ∀ w, (Instr.field 44 (eV en) 0).run Tryd.prog w = .ok (strV en.1) w := fun _ => by kernel_rfl
          have hee : (en.1 == s) = false := by simpa using hes
          clear hes hno
          go_wp2_with fail
          go_roundw
          case rel => exact ⟨k + 1, by omega, by go_num, HN, hq1⟩
          case measure => simp [intOf] <;> omega
      · obtain rfl : k = 58 := by omega
        go_wp2_with fail
        go_returns
        exact ⟨0, rfl, Or.inl ⟨rfl, hno.out⟩, hq⟩
set_option maxRecDepth 100000 in
set_option maxHeartbeats 2000000 in
theorem rof_any (s : B8) (w : World) : Calls Tryd.prog 22 #[strV s] w fun e w' => ∃ r : Int, e = .returned (i6 r) ∧ OfIs s r ∧ Below w.heap.size w w' := by
  go_enter Tryd.func22, Tryd.ntmps22
  go_wp2_with fail
  go_loopw [3] (fun i wr => ∃ k : Nat, k ≤ 58 ∧ i = .int .i64 ((k : Int) + 1) ∧ Hid (∀ j : Nat, j < k → (reqT ((j : Int) + 1)).1 ≠ s) ∧ Below w.heap.size w wr) (fun i _ => 59 - (intOf i).toNat)
  case atStart => exact ⟨0, by omega, rfl, Lib.hid (fun j hj => by omega), Below.refl _ _⟩
  case round =>
    obtain ⟨k, hk, rfl, hno, hq⟩ := hrel
    go_wp2_with fail
    refine (requests_any _).mono ?_
    rintro e w1 ⟨rfl, _, hb⟩
    have hq1 := q_step hq hb
    clear hq hb
    by_cases hlt : k < 58
    · go_wp2_with fail
      refine (rname_any _ _).mono ?_
      rintro e w2 ⟨rfl, hb⟩
      have hq2 := q_step hq1 hb
      clear hq1 hb
      by_cases hes : (reqT ((k : Int) + 1)).1 = s
      · have HO : Hid (OfIs s ((k : Int) + 1)) := Lib.hid (Or.inr ⟨by omega, by omega, hes⟩)
        generalize (reqT ((k : Int) + 1)).1 = en at hes ⊢
        have hee : (en == s) = true := by simpa using hes
        clear hes
        go_wp2_with fail
        go_returns
        exact ⟨_, by first | rfl | (simp; done) | (simp; omega), HO.out, hq2⟩
      · have HN : Hid (∀ j : Nat, j < k + 1 → (reqT ((j : Int) + 1)).1 ≠ s) := Lib.hid (fun j hj => by
          rcases (by omega : j < k ∨ j = k) with h | rfl
          · exact hno.out j h
          · exact hes)
        generalize (reqT ((k : Int) + 1)).1 = en at hes ⊢
        have hee : (en == s) = false := by simpa using hes
        clear hes hno
        go_wp2_with fail
        go_roundw
        case rel => exact ⟨k + 1, by omega, by go_num, HN, hq2⟩
        case measure => simp [intOf] <;> omega
    · obtain rfl : k = 58 := by omega
      go_wp2_with fail
      go_returns
      exact ⟨0, rfl, Or.inl ⟨rfl, hno.out⟩, hq1⟩
end Go.Proofs.YtbffnobchjiaeaaDoor
