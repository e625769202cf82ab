/- Layer 42: lists of numbers; are they numbers; copies. -/
import Derived.Test.YtlaejolgjchfcaaProg
import Derived.Test.YtlaejolgjchfcaaLib
import Derived.Outline
import Derived.Handy
import Derived.KernelRfl
import Derived.Lib.Hide
import Derived.OwnWalk
import Derived.Lib.SmallJoins
import Derived.Test.YtlaejolgjchfcaaLib2
import Derived.Test.YtlaejolgjchfcaaLib3
import Derived.WalkKit
import Derived.Deep.QuietTactic
import Derived.Deep.OwnRows
import Derived.Laws.CopyOwn
import Derived.Deep.RegionHeld3
import Derived.BigQuiet
import Derived.Deep.Cut
namespace Go.Proofs.Ytlaejolgjchfcaa
open Go Go.RowKit
set_option linter.unusedSimpArgs false
set_option linter.unusedVariables false
abbrev i6 (n : Int) : Value := .int .i64 n
theorem stick {w : World} {p : Addr} {v : Value} (h : w.cell? p = some v) : ∀ W, Below w.heap.size w W → W.cell? p = some v := fun _ hb => cell_below hb h
theorem addr_add (b off j : Nat) : (⟨b, off, none⟩ : Addr).add j = ⟨b, off + j, none⟩ := by unfold Addr.add; split <;> simp_all
def LayI (w : World) (b off : Nat) (us : List Int) : Prop := ∀ k u, us[k]? = some u → w.cell? ⟨b, off + k, none⟩ = some (i6 u)
theorem LayI.below {w w' : World} {b off : Nat} {us : List Int} (h : LayI w b off us) (hb : Below w.heap.size w w') : LayI w' b off us := fun k u hk => cell_below hb (h k u hk)
/-- The value is a slice of these numbers. -/
def IsI (w : World) (v : Value) (us : List Int) : Prop :=
  (∃ a cap, v = .slice a 0 cap ∧ us = []) ∨ ∃ b off cap, v = .slice (some ⟨b, off, none⟩) us.length cap ∧ 0 < us.length ∧ us.length ≤ cap ∧ cap ≤ maxLen ∧ b < w.heap.size ∧ LayI w b off us
theorem IsI.below {w w' : World} {v : Value} {us : List Int} (h : IsI w v us) (hb : Below w.heap.size w w') : IsI w' v us := by
  rcases h with h | ⟨b, off, cap, h1, h2, h3, h4, h5, h6⟩
  · exact Or.inl h
  · exact Or.inr ⟨b, off, cap, h1, h2, h3, h4, Nat.lt_of_lt_of_le h5 hb.size, h6.below hb⟩
theorem isI_form {w : World} {v : Value} {us : List Int} (h : IsI w v us) : ∃ a cap, v = .slice a us.length cap ∧ (0 < us.length → ∃ b off, a = some ⟨b, off, none⟩ ∧ us.length ≤ cap ∧ cap ≤ maxLen ∧ b < w.heap.size ∧ LayI w b off us) := by
  rcases h with ⟨a, cap, rfl, rfl⟩ | ⟨b, off, cap, rfl, h1, h2, h3, h4, h5⟩
  · exact ⟨a, cap, rfl, fun h => by simp at h⟩
  · exact ⟨_, cap, rfl, fun _ => ⟨b, off, rfl, h2, h3, h4, h5⟩⟩
def okN (v : Int) : Bool := decide (0 ≤ v) && decide (v ≤ 4294967295)
def numsB (us : List Int) : Bool := us.all okN
theorem bad_any (v : Int) (w : World) : Calls Try.prog 34 #[i6 v] w fun e w' => e = .returned (.bool (!okN v)) ∧ w = w' := by
  by_cases h0 : v < 0
  · have h : okN v = false := by unfold okN; simp; omega
    rw [h]
    go_enter Try.func34, Try.ntmps34
    go_wp2_with fail
    go_returns
    exact ⟨rfl, rfl⟩
  · by_cases h1 : 4294967295 < v
    · have h : okN v = false := by unfold okN; simp; omega
      rw [h]
      go_enter Try.func34, Try.ntmps34
      go_wp2_with fail
      go_returns
      exact ⟨rfl, rfl⟩
    · have h : okN v = true := by unfold okN; simp; omega
      rw [h]
      go_enter Try.func34, Try.ntmps34
      go_wp2_with fail
      go_returns
      exact ⟨rfl, rfl⟩
theorem take_ok {us : List Int} {k : Nat} {u : Int} (h : us[k]? = some u) : (us.take (k + 1)).all okN = ((us.take k).all okN && okN u) := by
  rw [List.take_add_one, h]; simp
theorem ok_not {us : List Int} {k : Nat} (h : (us.take k).all okN = false) : us.all okN = false := by
  rw [← List.take_append_drop k us, List.all_append, h]; rfl
set_option maxRecDepth 100000 in
theorem index_any (v : Value) (us : List Int) (w : World) (hv : IsI w v us) (hl : us.length ≤ 1000000) :
    Calls Try.prog 43 #[v, .func (.func 34) #[] #[]] w fun e w' => ∃ r : Int, e = .returned (i6 r) ∧ (decide (0 ≤ r) = !numsB us) ∧ w = w' := by
  obtain ⟨a, cap, rfl, hf⟩ := isI_form hv
  have HF := Lib.hid hf
  clear hf hv
  go_enter Try.func43, Try.ntmps43
  go_wp2_with fail
  go_loopw [8] (fun i wr => ∃ k : Nat, k ≤ us.length ∧ i = .int .i64 k ∧ Hid ((us.take k).all okN = true) ∧ w = wr)
    (fun i _ => us.length - (intOf i).toNat)
  case atStart => exact ⟨0, by omega, rfl, Lib.hid rfl, rfl⟩
  case round =>
    obtain ⟨k, hk, rfl, hall, rfl⟩ := hrel
    by_cases hlt : k < us.length
    · obtain ⟨b, off, rfl, hc1, hc2, hb, hlay⟩ := HF.out (by omega)
      have hlk : us[k]? = some us[k] := List.getElem?_eq_getElem hlt
      have d0 := hlay k _ hlk
      have htk := take_ok hlk
      rw [hall.out] at htk
      clear hlay hlk
      generalize us[k] = u at d0 htk
      have HT := Lib.hid htk
      clear htk
      go_wp2_with fail
      refine (bad_any u _).mono ?_
      rintro e w1 ⟨rfl, rfl⟩
      cases hu : okN u with
      | true =>
        have HT2 : Hid ((us.take (k + 1)).all okN = true) := Lib.hid (by rw [HT.out, hu]; rfl)
        clear HT hu
        go_wp2_with fail
        go_roundw
        case rel => exact ⟨k + 1, by omega, by go_num, HT2, by trivial⟩
        case measure => simp [intOf]; omega
      | false =>
        have hn : numsB us = false := ok_not (k := k + 1) (by rw [HT.out, hu]; rfl)
        have HN := Lib.hid hn
        clear HT hu hn
        go_wp2_with fail
        go_returns
        exact ⟨_, rfl, by rw [HN.out]; simp, rfl⟩
    · obtain rfl : k = us.length := by omega
      have hn : numsB us = true := by have := hall.out; rwa [List.take_length] at this
      have HN := Lib.hid hn
      clear hn hall
      go_wp2_with fail
      go_returns
      exact ⟨_, rfl, by rw [HN.out]; rfl, rfl⟩
theorem contains_any (v : Value) (us : List Int) (w : World) (hv : IsI w v us) (hl : us.length ≤ 1000000) :
    Calls Try.prog 33 #[v, .func (.func 34) #[] #[]] w fun e w' => e = .returned (.bool (!numsB us)) ∧ w = w' := by
  go_enter Try.func33, Try.ntmps33
  go_wp2_with fail
  refine (index_any v us _ hv hl).mono ?_
  rintro e w1 ⟨r, rfl, hr, rfl⟩
  have HR := Lib.hid hr
  clear hr
  go_wp2_with fail
  go_returns
  exact ⟨by rw [← HR.out] <;> first | rfl | simp, rfl⟩
theorem are_any (v : Value) (us : List Int) (w : World) (hv : IsI w v us) (hl : us.length ≤ 1000000) :
    Calls Try.prog 27 #[v] w fun e w' => e = .returned (.bool (numsB us)) ∧ w = w' := by
  go_enter Try.func27, Try.ntmps27
  go_wp2_with fail
  refine (contains_any v us _ hv hl).mono ?_
  rintro e w1 ⟨rfl, rfl⟩
  go_wp2_with fail
  go_returns
  exact ⟨by simp, rfl⟩
theorem info_i64 : (Try.prog.info? 2).map (fun i => (i.zero, i.size, i.bytes)) = some (some (i6 0), 1, 8) := by kernel_rfl
theorem size_i64 : (Try.prog.info? 2).map (·.size) = some 1 := by kernel_rfl
theorem und_i64s : Try.prog.underlying 22 = some (.slice 2) := by kernel_rfl
theorem isI_row {w : World} {g n cap : Nat} {us : List Int} {t : TypeId} {fr : Nat × Nat} (h : w.heap[g]? = some (.cells (us.map i6).toArray t fr)) (hn : us.length = n) (hc : n ≤ cap) (hm : cap ≤ maxLen) : IsI w (.slice (some ⟨g, 0, none⟩) n cap) us := by
  subst hn
  by_cases h0 : us.length = 0
  · exact Or.inl ⟨_, _, by rw [h0], List.eq_nil_of_length_eq_zero h0⟩
  · refine Or.inr ⟨g, 0, cap, rfl, by omega, hc, hm, (Array.getElem?_eq_some_iff.1 h).1, fun k u hk => ?_⟩
    unfold World.cell?
    simp only [h]
    simpa using hk
theorem splice_all {α : Type} {L cs : List α} (h : cs.length = L.length) : splice L 0 cs = cs := by
  unfold splice
  rw [List.take_zero, Nat.zero_add, h, List.drop_length, List.append_nil, List.nil_append]
theorem copied_nil (a : Option Addr) (cap : Nat) (w : World) :
    Calls Try.prog 28 #[.slice a 0 cap] w fun e w' => e = .returned (.slice (some ⟨w.heap.size, 0, none⟩) 0 0) ∧ IsI w' (.slice (some ⟨w.heap.size, 0, none⟩) 0 0) [] ∧ Below w.heap.size w w' := by
  have hmk : ∀ ww, (Instr.makeSlice 22 (.int .i64 0) (.int .i64 0)).run Try.prog ww = .ok (.slice (some ⟨ww.heap.size, 0, none⟩) 0 0) (ww.alloc (.cells (madeCells #[i6 0] 0) 2)) := fun ww => run_make_row' (P := Try.prog) 22 2 (i6 0) 8 und_i64s info_i64 rfl .i64 .i64 0 (by omega) (by omega) ww
  have hb0 : Below w.heap.size w (w.alloc (.cells (madeCells #[i6 0] 0) 2)) := q_alloc (Below.refl _ _) _
  have hcp := run_copy_none (P := Try.prog) (w.alloc (.cells (madeCells #[i6 0] 0) 2)) 22 22 3 2 (some ⟨w.heap.size, 0, none⟩) a 0 0 0 cap und_i64s size_i64 rfl
  go_enter Try.func28, Try.ntmps28
  go_wp2_with fail
  go_returns
  exact ⟨rfl, Or.inl ⟨_, _, rfl, rfl⟩, hb0⟩
set_option maxRecDepth 100000 in
theorem copied_any (v : Value) (us : List Int) (w : World) (hv : IsI w v us) (hl : us.length ≤ 1000000) :
    Calls Try.prog 28 #[v] w fun e w' => e = .returned (.slice (some ⟨w.heap.size, 0, none⟩) us.length us.length) ∧ IsI w' (.slice (some ⟨w.heap.size, 0, none⟩) us.length us.length) us ∧ Below w.heap.size w w' := by
  obtain ⟨a, cap, rfl, hf⟩ := isI_form hv
  have hmk := fun ww => run_make_row' (P := Try.prog) 22 2 (i6 0) 8 und_i64s info_i64 rfl .i64 .i64 us.length (by omega) (by omega) ww
  have hb0 : Below w.heap.size w (w.alloc (.cells (madeCells #[i6 0] us.length) 2)) := q_alloc (Below.refl _ _) _
  by_cases h0 : us.length = 0
  · obtain rfl : us = [] := List.eq_nil_of_length_eq_zero h0
    exact copied_nil a cap w
  · obtain ⟨b, off, rfl, hc1, hc2, hb, hlay⟩ := hf (by omega)
    have hcp := run_copy_row (P := Try.prog) (w.alloc (.cells (madeCells #[i6 0] us.length) 2)) 22 22 3 2 w.heap.size 0 us.length us.length ⟨b, off, none⟩ us.length cap (madeCells #[i6 0] us.length) 2 (us.map i6) und_i64s size_i64 (by rw [heap_alloc_new]) (by rw [show Nat.min us.length us.length = us.length from Nat.min_self _]; simp) (fun j u hj => by
        rw [List.getElem?_map] at hj
        obtain ⟨x, hx, rfl⟩ := Option.map_eq_some_iff.1 hj
        rw [addr_add]
        exact cell_below hb0 (hlay j x hx)) (by simp [madeCells]) (fun u hu => by
        obtain ⟨x, _, rfl⟩ := List.mem_map.1 hu
        rfl)
    have hrow := setRow_heap (w.alloc (.cells (madeCells #[i6 0] us.length) 2)) w.heap.size (madeCells #[i6 0] us.length) ((madeCells #[i6 0] us.length).toList.take 0 ++ (us.map i6 ++ (madeCells #[i6 0] us.length).toList.drop (0 + (us.map i6).length))).toArray 2 (0, 0) (heap_alloc_new _ _)
    have hfin : (madeCells #[i6 0] us.length).toList.take 0 ++ (us.map i6 ++ (madeCells #[i6 0] us.length).toList.drop (0 + (us.map i6).length)) = us.map i6 := splice_all (by simp [madeCells])
    have hbb := below_setRow (B := w.heap.size) (g := w.heap.size) hb0 (Nat.le_refl _) ((madeCells #[i6 0] us.length).toList.take 0 ++ (us.map i6 ++ (madeCells #[i6 0] us.length).toList.drop (0 + (us.map i6).length))).toArray
    rw [List.append_assoc, hfin] at hcp
    rw [hfin] at hrow hbb
    have hlm : (us.map i6).length = us.length := by simp
    rw [hlm] at hcp
    have hfi : IsI _ (.slice (some ⟨w.heap.size, 0, none⟩) us.length us.length) us := isI_row hrow rfl (Nat.le_refl _) (by unfold maxLen; omega)
    generalize (w.alloc (.cells (madeCells #[i6 0] us.length) 2)).setRow w.heap.size (us.map i6).toArray = W2 at hcp hbb hfi
    clear hf hv hrow hfin hlay
    have HFI := Lib.hid hfi
    clear hfi hlm
    go_enter Try.func28, Try.ntmps28
    go_wp2_with fail
    go_returns
    exact ⟨rfl, HFI.out, hbb⟩
theorem isI_set {w : World} {B off n cap : Nat} {us : List Int} {p : Addr} {u : Value} (h : IsI w (.slice (some ⟨B, off, none⟩) n cap) us) (hne : p.block ≠ B) : IsI (w.setCell p u) (.slice (some ⟨B, off, none⟩) n cap) us := by
  rcases h with h | ⟨b, off', cap', h1, h2, h3, h4, h5, h6⟩
  · exact Or.inl h
  · simp only [Value.slice.injEq, Option.some.injEq, Addr.mk.injEq] at h1
    obtain ⟨⟨rfl, rfl, _⟩, rfl, rfl⟩ := h1
    exact Or.inr ⟨B, off, cap, rfl, h2, h3, h4, by simpa [World.setCell] using h5, fun k x hk => set_far (h6 k x hk) (by intro e; apply hne; rw [e])⟩
end Go.Proofs.Ytlaejolgjchfcaa
