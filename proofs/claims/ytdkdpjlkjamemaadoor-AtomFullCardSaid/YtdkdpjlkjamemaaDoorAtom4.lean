/- Layer 9: the program's Known, Clone, Len, and tables. -/
import Derived.Test.YtdkdpjlkjamemaaDoorAtom3
import Derived.Maps.OwnOps
import Derived.Maps.OwnSet
import Derived.Maps.Views
import Derived.StringKeys
import Derived.Laws.Cover3
namespace Go.Proofs.YtdkdpjlkjamemaaDoor
open Go Go.RowKit Go.Maps
set_option linter.unusedSimpArgs false
set_option linter.unusedVariables false

abbrev knownCells : List Value := knownL.map strV
theorem size_known : (Tryd.prog.info? 54).map (·.size) = some knownCells.length := by kernel_rfl
theorem known_at (k : Nat) (h : k < 10) : ∃ a, knownL[k]? = some a ∧ ∀ w, (Instr.index 54 (.agg knownCells.toArray) (.int .i64 (k : Int))).run Tryd.prog w = .ok (strV a) w := by
  match k, h with
  | 0, _ => exact ⟨_, rfl, fun w => by kernel_rfl⟩
  | 1, _ => exact ⟨_, rfl, fun w => by kernel_rfl⟩
  | 2, _ => exact ⟨_, rfl, fun w => by kernel_rfl⟩
  | 3, _ => exact ⟨_, rfl, fun w => by kernel_rfl⟩
  | 4, _ => exact ⟨_, rfl, fun w => by kernel_rfl⟩
  | 5, _ => exact ⟨_, rfl, fun w => by kernel_rfl⟩
  | 6, _ => exact ⟨_, rfl, fun w => by kernel_rfl⟩
  | 7, _ => exact ⟨_, rfl, fun w => by kernel_rfl⟩
  | 8, _ => exact ⟨_, rfl, fun w => by kernel_rfl⟩
  | 9, _ => exact ⟨_, rfl, fun w => by kernel_rfl⟩
theorem strV_cells {w : World} {a : B} {t : TypeId} {fr : Nat × Nat} : ∀ j u, [strV a][j]? = some u → (w.alloc (.cells #[strV a] t fr)).cell? ((⟨w.heap.size, 0, none⟩ : Addr).add j) = some u := by
  intro j u hj
  match j, hj with
  | 0, hj => simp at hj; subst hj; exact cell_new rfl
  | j + 1, hj => simp at hj
theorem strV_one {a : B} : ∀ u ∈ [strV a], u.oneCell' = true := by
  intro u hu
  simp at hu
  rw [hu]; rfl

set_option maxRecDepth 100000 in
set_option maxHeartbeats 4000000 in
theorem known_any (w : World) (hs : RowAt 0 knownCells w) : Calls Tryd.prog 20 #[] w fun e w' => ∃ v, e = .returned v ∧ OwnS w' w.heap.size v knownL ∧ Below w.heap.size w w' := by
  have HS := Lib.hid hs
  clear hs
  obtain ⟨i0, hi, hz0, hz1, hz2⟩ := info_parts info_str
  go_enter Tryd.func20, Tryd.ntmps20
  go_wp2_with (with_reducible refine at_load 54 (.global 0) ?_; refine wpList_load_cells rfl 54 _ rfl 0 rfl knownCells _ HS.out Tryd.underlying54 rfl size_known ?_)
  go_loopw [1, 5] (fun v i wr => ∃ k : Nat, k ≤ 10 ∧ i = .int .i64 k ∧ OwnS wr w.heap.size v (knownL.take k) ∧ Below w.heap.size w wr)
    (fun _ i _ => 10 - (intOf i).toNat)
  case atStart => exact ⟨0, by omega, rfl, World.ownsRow_nil _ _ _ _, Below.refl _ _⟩
  case round =>
    obtain ⟨k, hk, rfl, hown, hnx⟩ := hrel
    by_cases hlt : k < 10
    · obtain ⟨a, hka, hix⟩ := known_at k hlt
      have hkt : knownL.take (k + 1) = knownL.take k ++ [a] := by rw [List.take_add_one, hka]; rfl
      have hkl : (knownL.take k).length = k := by rw [List.length_take]; exact Nat.min_eq_left (by show k ≤ 10; omega)
      clear hka
      generalize knownCells.toArray = KC at hix ⊢
      go_wp2_with (at_builtin; refine wpList_append_own _ rfl _ _ 22 rfl w.heap.size 9 i0 (.string ⟨#[]⟩) 1 16 und_strs hi hz0 hz1 hz2 rfl (by decide) _ _ _ rfl (hown.alloc _) ⟨wr.heap.size, 0, none⟩ 1 1 [strV a] rfl rfl strV_cells strV_one ?c3 ?c4 ?c5 ?_)
      case c3 => rw [hkl]; unfold maxLen; omega
      case c4 => rw [hkl]; omega
      case c5 => have := hnx.size; simp; omega
      intro v' w9 hown' hgrow _
      have hb1 : Below w.heap.size w w9 := (hnx.alloc hnx.size _).grown hgrow (by have := hnx.size; simp; omega) (fun j hj => (hown.lt j hj).1)
      have hown2 : OwnS w9 w.heap.size v' (knownL.take (k + 1)) := by
        unfold OwnS
        have e1 : (knownL.take (k + 1)).length = k + 1 := by rw [List.length_take]; exact Nat.min_eq_left (by show k + 1 ≤ 10; omega)
        rw [e1, hkt, List.map_append, List.map_take]; exact hown'
      clear hown' hgrow hown hnx
      go_wp2_with fail
      go_roundw
      case rel => exact ⟨k + 1, by omega, by go_num, hown2, hb1⟩
      case measure => simp [intOf]; omega
    · have hk4 : k = 10 := by omega
      subst hk4
      have hown2 : OwnS wr w.heap.size u1 knownL := hown
      go_wp2_with fail
      go_returns
      exact ⟨_, rfl, hown2, hnx⟩

theorem eqNilStrs (a : Option Addr) (n cap : Nat) (w : World) : (binOp .eql 22 (.slice a n cap) (.slice none 0 0)).run Tryd.prog w = .ok (.bool a.isNone) w := by
  simp [binOp, run_equal_slice_nil w _ _ a n cap und_strs]
theorem und_amap : Tryd.prog.underlying 28 = some (.map 9 25) := by kernel_rfl
theorem eqNilMap (a : Option Nat) (w : World) : (binOp .eql 28 (.map a) (.map none)).run Tryd.prog w = .ok (.bool a.isNone) w := by
  simp [binOp, run_equal_map_nil w _ _ _ a und_amap]
set_option maxRecDepth 100000 in
set_option maxHeartbeats 4000000 in
theorem clone_some (b off cap : Nat) (ss : List B) (w : World) (hl : LayS w b off ss) (hlen : ss.length ≤ 100000) (h0 : 0 < ss.length) :
    Calls Tryd.prog 24 #[.slice (some ⟨b, off, none⟩) ss.length cap] w fun e w' => ∃ v, e = .returned v ∧ OwnS w' w.heap.size v ss ∧ Below w.heap.size w w' := by
  obtain ⟨i0, hi, hz0, hz1, hz2⟩ := info_parts info_str
  have hown : (w.alloc (.cells #[] 9)).ownsRow w.heap.size 9 1 (.slice (some ⟨w.heap.size, 0, none⟩) 0 0) 0 [] := World.ownsRow_lit w #[] 0 (Nat.le_refl _) (by decide) rfl
  have hcs : ∀ j u, (ss.map strV)[j]? = some u → (w.alloc (.cells #[] 9)).cell? ((⟨b, off, none⟩ : Addr).add j) = some u := by
    intro j u hj
    rw [List.getElem?_map, Option.map_eq_some_iff] at hj
    obtain ⟨s, hs, rfl⟩ := hj
    have : (⟨b, off, none⟩ : Addr).add j = ⟨b, off + j, none⟩ := by unfold Addr.add; split <;> simp_all
    rw [this]
    exact cell_old (hl j s hs)
  have hones : ∀ u ∈ ss.map strV, u.oneCell' = true := by
    intro u hu
    obtain ⟨s, _, rfl⟩ := List.mem_map.1 hu
    rfl
  have hlm : (ss.map strV).length = ss.length * 1 := by simp
  clear hl
  have hq := eqNilStrs (some ⟨b, off, none⟩) ss.length cap
  go_enter Tryd.func24, Tryd.ntmps24
  go_wp2_with (at_builtin; refine wpList_append_own _ rfl _ _ 22 rfl w.heap.size 9 i0 (.string ⟨#[]⟩) 1 16 und_strs hi hz0 hz1 hz2 rfl (by decide) _ _ _ rfl hown ⟨b, off, none⟩ ss.length cap (ss.map strV) rfl hlm hcs hones ?c3 ?c4 ?c5 ?_)
  case c3 => unfold maxLen; omega
  case c4 => omega
  case c5 => simp
  intro v' w9 hown' hgrow _
  have hb1 : Below w.heap.size w w9 := ((Below.refl w.heap.size w).alloc (Nat.le_refl _) _).grown hgrow (by simp) (fun j hj => by simp [Value.ownBlock] at hj; omega)
  have hown2 : OwnS w9 w.heap.size v' ss := by simpa using hown'
  clear hown' hgrow hown hcs hones
  go_wp2_with fail
  go_returns
  exact ⟨_, rfl, hown2, hb1⟩
theorem clone_nil (cap : Nat) (w : World) :
    Calls Tryd.prog 24 #[.slice none 0 cap] w fun e w' => ∃ v, e = .returned v ∧ OwnS w' w.heap.size v [] ∧ Below w.heap.size w w' := by
  have hq := eqNilStrs none 0 cap
  go_enter Tryd.func24, Tryd.ntmps24
  go_wp2_with fail
  go_returns
  exact ⟨_, rfl, World.ownsRow_nil _ _ _ _, Below.refl _ _⟩
end Go.Proofs.YtdkdpjlkjamemaaDoor
