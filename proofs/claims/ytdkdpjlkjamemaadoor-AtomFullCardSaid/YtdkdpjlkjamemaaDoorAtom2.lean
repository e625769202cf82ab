/- Slices of strings; the document's Find, Same, Short, Known. -/
import Derived.Test.YtdkdpjlkjamemaaDoorAtom1
import Derived.Lib.AppendStr
namespace Go.Proofs.YtdkdpjlkjamemaaDoor
open Go Go.RowKit
set_option linter.unusedSimpArgs false
set_option linter.unusedVariables false

def LayS (w : World) (b off : Nat) (ss : List B) : Prop := ∀ k s, ss[k]? = some s → w.cell? ⟨b, off + k, none⟩ = some (strV s)
theorem LayS.below {w w' : World} {b off : Nat} {ss : List B} (h : LayS w b off ss) (hb : Below w.heap.size w w') : LayS w' b off ss := fun k s hk => cell_below hb (h k s hk)
def IsStrs (w : World) (v : Value) (ss : List B) : Prop :=
  (∃ a cap, v = .slice a 0 cap ∧ ss = []) ∨
  ∃ b off cap, v = .slice (some ⟨b, off, none⟩) ss.length cap ∧ 0 < ss.length ∧ ss.length ≤ cap ∧ cap ≤ maxLen ∧ b < w.heap.size ∧ LayS w b off ss
theorem IsStrs.below {w w' : World} {v : Value} {ss : List B} (h : IsStrs w v ss) (hb : Below w.heap.size w w') : IsStrs w' v ss := by
  rcases h with h | ⟨b, off, cap, h1, h2, h3, h4, h5, h6⟩
  · exact Or.inl h
  · exact Or.inr ⟨b, off, cap, h1, h2, h3, h4, Nat.lt_of_lt_of_le h5 hb.size, h6.below hb⟩
abbrev OwnS (w : World) (base : Nat) (v : Value) (ss : List B) : Prop := w.ownsRow base 9 1 v ss.length (ss.map strV)
theorem ownS_is {w : World} {base : Nat} {v : Value} {ss : List B} (h : OwnS w base v ss) : IsStrs w v ss := by
  rcases Nat.eq_zero_or_pos ss.length with h0 | hp
  · have : ss = [] := List.eq_nil_of_length_eq_zero h0
    subst this
    rcases Joins.ownsRow_forms h with ⟨rfl, _⟩ | ⟨g, cap, rfl⟩
    · exact Or.inl ⟨_, _, rfl, rfl⟩
    · exact Or.inl ⟨_, _, rfl, rfl⟩
  · obtain ⟨g, cap, rfl⟩ := Joins.ownsRow_form h hp
    have hlt := h.lt g rfl
    rcases h.2 with ⟨hx, _⟩ | ⟨g', cap', cur, hv, _, _, hn, hm, _⟩
    · simp at hx
    · simp only [Value.slice.injEq] at hv
      obtain ⟨_, _, rfl⟩ := hv
      refine Or.inr ⟨g, 0, cap, rfl, hp, hn, hm, hlt.2, fun k s hk => ?_⟩
      have hkl : k < ss.length := (List.getElem?_eq_some_iff.1 hk).1
      rw [Nat.zero_add]
      refine (h.cellAt k (by omega)).trans ?_
      rw [List.getElem?_map, hk]; rfl

def knownL : List B := [[112, 114, 105, 109, 97, 114, 121], [115, 101, 99, 111, 110, 100, 97, 114, 121], [99, 108, 105, 112, 98, 111, 97, 114, 100], [115, 116, 114, 105, 110, 103], [105, 110, 116, 101, 103, 101, 114], [97, 116, 111, 109, 115], [105, 110, 99, 114], [116, 105, 116, 108, 101], [116, 114, 97, 110, 115, 102, 101, 114], [99, 108, 111, 115, 101]]
/-- A name's number among names: 0: it isn't there. -/
def findL : List B → B → Nat
  | [], _ => 0
  | a :: l, s => if a = s then 1 else if findL l s = 0 then 0 else findL l s + 1
theorem findL_app : ∀ (l m : List B) (s : B), findL (l ++ m) s = if findL l s ≠ 0 then findL l s else if findL m s = 0 then 0 else l.length + findL m s
  | [], m, s => by simp [findL]
  | a :: l, m, s => by
    have ih := findL_app l m s
    simp only [List.cons_append, findL, List.length_cons]
    by_cases h : a = s
    · simp [h]
    · simp only [h, if_false]
      rw [ih]
      by_cases h1 : findL l s = 0 <;> by_cases h2 : findL m s = 0 <;> simp [h1, h2] <;> omega
theorem findL_le : ∀ (l : List B) (s : B), findL l s ≤ l.length
  | [], s => by simp [findL]
  | a :: l, s => by
    have ih := findL_le l s
    simp only [findL, List.length_cons]
    repeat' split
    all_goals omega
theorem findL_get : ∀ (l : List B) (s : B), findL l s ≠ 0 → l[findL l s - 1]? = some s
  | [], s, h => by simp [findL] at h
  | a :: l, s, h => by
    simp only [findL] at h ⊢
    by_cases he : a = s
    · simp [he]
    · simp only [he, if_false] at h ⊢
      by_cases h0 : findL l s = 0
      · simp [h0] at h
      · simp only [h0, if_false]
        have := findL_get l s h0
        rw [show findL l s + 1 - 1 = (findL l s - 1) + 1 by omega]
        simpa using this
theorem findL_zero : ∀ (l : List B) (s : B), findL l s = 0 ↔ s ∉ l
  | [], s => by simp [findL]
  | a :: l, s => by
    simp only [findL, List.mem_cons, not_or]
    rw [← findL_zero l s]
    by_cases he : a = s
    · simp [he]
    · simp only [he, if_false]
      constructor
      · intro h
        refine ⟨fun e => he e.symm, ?_⟩
        by_cases h0 : findL l s = 0
        · exact h0
        · simp [h0] at h
      · rintro ⟨_, h⟩
        simp [h]
theorem findL_step {l : List B} {k : Nat} {a s : B} (h : l[k]? = some a) (hf : findL (l.take k) s = 0) : findL (l.take (k + 1)) s = if a = s then k + 1 else 0 := by
  have hk := (List.getElem?_eq_some_iff.1 h).1
  rw [List.take_add_one, h, findL_app, hf]
  simp only [Option.toList_some, findL, ne_eq, not_true, if_false, List.length_take]
  by_cases he : a = s
  · simp [he]; omega
  · simp [he]
theorem findL_take {l : List B} {k : Nat} {s : B} (hf : findL (l.take k) s ≠ 0) : findL l s = findL (l.take k) s := by
  conv => lhs; rw [← List.take_append_drop k l]
  rw [findL_app, if_pos hf]

set_option maxRecDepth 100000 in
set_option maxHeartbeats 2000000 in
theorem rfind_some (b off cap : Nat) (ss : List B) (s : B) (w : World) (hl : LayS w b off ss) (hlen : ss.length ≤ 100000) :
    Calls Tryd.prog 19 #[.slice (some ⟨b, off, none⟩) ss.length cap, strV s] w fun e w' => e = .returned (i6 (findL ss s)) ∧ w = w' := by
  have HL := Lib.hid hl
  clear hl
  go_enter Tryd.func19, Tryd.ntmps19
  go_wp2_with fail
  go_loopw [5] (fun i wr => ∃ k : Nat, k ≤ ss.length ∧ i = .int .i64 k ∧ Hid (findL (ss.take k) s = 0) ∧ wr = w)
    (fun i _ => ss.length - (intOf i).toNat)
  case atStart => exact ⟨0, by omega, rfl, Lib.hid rfl, rfl⟩
  case round =>
    obtain ⟨k, hk, rfl, hall, rfl⟩ := hrel
    by_cases hlt : k < ss.length
    · have hlk : ss[k]? = some ss[k] := List.getElem?_eq_getElem hlt
      have d0 := HL.out k _ hlk
      have hst := findL_step (s := s) hlk hall.out
      clear hlk
      generalize ss[k] = a at d0 hst
      by_cases he : a = s
      · have hbe : (a == s) = true := by rw [he]; simp
        rw [if_pos he] at hst
        have hf := findL_take (l := ss) (k := k + 1) (s := s) (by omega)
        rw [hst] at hf
        have HF := Lib.hid hf
        clear hf hst hall he
        go_wp2_with fail
        go_returns
        exact ⟨by rw [HF.out]; first | rfl | simp, rfl⟩
      · have hbe : (a == s) = false := by simp [he]
        rw [if_neg he] at hst
        have HF := Lib.hid hst
        clear hst hall he
        go_wp2_with fail
        go_roundw
        case rel => exact ⟨k + 1, by omega, by go_num, HF, by trivial⟩
        case measure => simp [intOf]; omega
    · have hkl : k = ss.length := by omega
      subst hkl
      have hf : findL ss s = 0 := by have := hall.out; rwa [List.take_length] at this
      have HF := Lib.hid hf
      clear hf hall
      go_wp2_with fail
      go_returns
      exact ⟨by rw [HF.out]; rfl, rfl⟩
theorem rfind_nil (a : Option Addr) (cap : Nat) (s : B) (w : World) :
    Calls Tryd.prog 19 #[.slice a 0 cap, strV s] w fun e w' => e = .returned (i6 0) ∧ w = w' := by
  go_enter Tryd.func19, Tryd.ntmps19
  go_wp2_with fail
  refine wp_loop_rounds 1 ?_
  rw [rounds_succ]
  go_wp2_with fail
  go_returns
  exact ⟨rfl, rfl⟩
theorem rfind_any (v : Value) (ss : List B) (s : B) (w : World) (h : IsStrs w v ss) (hlen : ss.length ≤ 100000) :
    Calls Tryd.prog 19 #[v, strV s] w fun e w' => e = .returned (i6 (findL ss s)) ∧ w = w' := by
  rcases h with ⟨a, cap, rfl, rfl⟩ | ⟨b, off, cap, rfl, _, _, _, _, hl⟩
  · exact rfind_nil a cap s w
  · exact rfind_some b off cap ss s w hl hlen
end Go.Proofs.YtdkdpjlkjamemaaDoor
