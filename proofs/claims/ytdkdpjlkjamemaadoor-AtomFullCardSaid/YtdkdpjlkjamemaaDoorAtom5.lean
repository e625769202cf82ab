/- Layer 9: tables, and the contract of find. -/
import Derived.Test.YtdkdpjlkjamemaaDoorAtom4
import Derived.Deep.Cut
namespace Go.Proofs.YtdkdpjlkjamemaaDoor
open Go Go.RowKit Go.Maps
set_option linter.unusedSimpArgs false
set_option linter.unusedVariables false

theorem und_str : Tryd.prog.underlying 9 = some .string := by kernel_rfl
theorem und_atom : Tryd.prog.underlying 25 = some (.int .u32) := by kernel_rfl
theorem zero_atom (w : World) : (zeroValue 25).run Tryd.prog w = .ok (u3 0) w := by kernel_rfl
theorem key_of (s : B) (h : s.length ≤ maxLen) : keyOf Tryd.prog 9 (strV s) = some (.string s) := by
  have := Go.WideMaps.keyOf_string_mk (P := Tryd.prog) und_str (s := ⟨s.toArray⟩) (by show s.toArray.size ≤ maxLen; simpa using h)
  simpa using this
/-- A name's number in a table. -/
def numT (more : List B) (s : B) : Nat := findL (knownL ++ more) s
def numM (more : List B) (s : B) : Int := if findL more s = 0 then 0 else ((10 + findL more s : Nat) : Int)
theorem numT_known {more : List B} {s : B} (h : findL knownL s ≠ 0) : numT more s = findL knownL s := by unfold numT; rw [findL_app, if_pos h]
theorem numT_more {more : List B} {s : B} (h : findL knownL s = 0) : ((numT more s : Nat) : Int) = numM more s := by
  unfold numT numM
  rw [findL_app, if_neg (by omega)]
  split
  · rfl
  · rfl
def MapOf (D : DataW Unit) (more : List B) : Prop := IsMap D ∧ ∀ s : B, D.atKey (.string s) (.lit (.int .u32 0)) = .lit (.int .u32 (numM more s))
abbrev OwnsA (w : World) (b n : Nat) (D : DataW Unit) : Prop := w.ownsMap Tryd.prog 9 (plainElem Tryd.prog 25) b n D
/-- A table's slice and map, that has these names behind the known ones. -/
def TabOf (w : World) (sv mv : Value) (more : List B) : Prop :=
  (more = [] ∧ sv = .slice none 0 0 ∧ mv = .map none) ∨
  (0 < more.length ∧ (∃ b off cap, sv = .slice (some ⟨b, off, none⟩) more.length cap ∧ more.length ≤ cap ∧ cap ≤ maxLen ∧ b < w.heap.size ∧ LayS w b off more) ∧
    ∃ mb D, mv = .map (some mb) ∧ OwnsA w mb more.length D ∧ MapOf D more)
theorem ownsA_below {w w' : World} {b n : Nat} {D : DataW Unit} (h : OwnsA w b n D) (hb : Below w.heap.size w w') : OwnsA w' b n D := by
  obtain ⟨es, clock, h1, h2, h3, h4⟩ := h
  have hlt := (Array.getElem?_eq_some_iff.1 h1).1
  exact ⟨es, clock, (hb.block _ hlt).trans h1, h2, h3, h4⟩
theorem TabOf.below {w w' : World} {sv mv : Value} {more : List B} (h : TabOf w sv mv more) (hb : Below w.heap.size w w') : TabOf w' sv mv more := by
  rcases h with h | ⟨h0, ⟨b, off, cap, h1, h2, h3, h4, h5⟩, mb, D, h6, h7, h8⟩
  · exact Or.inl h
  · exact Or.inr ⟨h0, ⟨b, off, cap, h1, h2, h3, Nat.lt_of_lt_of_le h4 hb.size, h5.below hb⟩, mb, D, h6, ownsA_below h7 hb, h8⟩
theorem TabOf.strs {w : World} {sv mv : Value} {more : List B} (h : TabOf w sv mv more) : IsStrs w sv more := by
  rcases h with ⟨rfl, rfl, _⟩ | ⟨h0, ⟨b, off, cap, rfl, h2, h3, h4, h5⟩, _⟩
  · exact Or.inl ⟨_, _, rfl, rfl⟩
  · exact Or.inr ⟨b, off, cap, rfl, h0, h2, h3, h4, h5⟩
theorem findK_step {k : Nat} {a s : B} (h : knownL[k]? = some a) (hf : findL (knownL.take k) s = 0) : findL (knownL.take (k + 1)) s = if a = s then k + 1 else 0 := findL_step h hf

set_option maxRecDepth 100000 in
set_option maxHeartbeats 4000000 in
theorem find_nil  (more : List B) (s : B) (w : World) (hs : RowAt 0 knownCells w) (hsl : s.length ≤ 100000) (hml : more.length ≤ 100000) (hm : more = []) :
    Calls Tryd.prog 22 #[.agg #[.slice none 0 0, .map none], strV s] w fun e w' => e = .returned (u3 (numT more s)) ∧ Below w.heap.size w w' := by
  have HS := Lib.hid hs
  have hnil : ∀ w, (Instr.lookup 28 (.map none) (strV s) false).run Tryd.prog w = .ok (u3 0) w := fun w => by
    have := Maps.look_nil (w := w) false (string_keyed und_str) und_amap (zero_atom w) (key_of s (by unfold maxLen; omega))
    simpa using this
  have hm0 : numM more s = 0 := by rw [hm]; simp [numM, findL]
  have HM0 := Lib.hid hm0
  clear hm0
  clear hs
  go_enter Tryd.func22, Tryd.ntmps22
  go_wp2_with (with_reducible refine at_load 54 (.global 0) ?_; refine wpList_load_cells rfl 54 _ rfl 0 rfl knownCells _ (HS.out.alloc _) Tryd.underlying54 rfl size_known ?_)
  refine code_world (fun W => Below w.heap.size w W ∧ Blk W w.heap.size [.slice none 0 0, .map none]) ⟨by (repeat' (first | with_reducible exact Below.refl _ _ | with_reducible assumption | with_reducible refine q_alloc ?_ _ | with_reducible refine q_drew ?_ | with_reducible refine q_drewN _ ?_ | with_reducible refine q_setCell ?_ ?_ _ | (left; simp; done) | (right; simp; done) | (right; dsimp only; omega) | (left; dsimp only; omega))), Blk.new rfl⟩ ?_
  intro W1 ⟨hq1, b0⟩
  have c0 := b0.cell 0 rfl
  have c1 := b0.cell 1 rfl
  go_loopw [8] (fun i wr => ∃ k : Nat, k ≤ 10 ∧ i = .int .i64 k ∧ Hid (findL (knownL.take k) s = 0) ∧ wr = W1)
    (fun i _ => 10 - (intOf i).toNat)
  case atStart => exact ⟨0, by omega, rfl, Lib.hid rfl, rfl⟩
  case round =>
    obtain ⟨k, hk, rfl, hall, rfl⟩ := hrel
    by_cases hlt : k < 10
    · obtain ⟨a, hka, hix⟩ := known_at k hlt
      have hst := findK_step (s := s) hka hall.out
      clear hka
      generalize knownCells.toArray = KC at hix ⊢
      by_cases he : a = s
      · have hbe : (a == s) = true := by simp [he]
        rw [if_pos he] at hst
        have hf := findL_take (l := knownL) (k := k + 1) (s := s) (by omega)
        rw [hst] at hf
        have hnt : numT more s = k + 1 := by rw [numT_known (by omega), hf]
        have HF := Lib.hid hnt
        have hw1 : IntKind.u32.wrap ((k : Int) + 1) = (k : Int) + 1 := by simp only [IntKind.wrap, IntKind.bits, IntKind.signed]; simp; omega
        clear hf hst hall he hnt
        go_wp2_with fail
        go_returns
        exact ⟨by rw [HF.out]; first | rfl | simp [hw1], hq1⟩
      · have hbe : (a == s) = false := by simp [he]
        rw [if_neg he] at hst
        have HF := Lib.hid hst
        clear hst hall he
        go_wp2_with fail
        go_roundw
        case rel => exact ⟨k + 1, by omega, by go_num, HF, by trivial⟩
        case measure => simp [intOf]; omega
    · have hkl : k = 10 := by omega
      subst hkl
      have hf : findL knownL s = 0 := hall.out
      have hnt := numT_more (more := more) hf
      have HF := Lib.hid hnt
      clear hf hall hnt
      go_wp2_with fail
      go_returns
      exact ⟨by rw [HF.out, HM0.out]; rfl, hq1⟩

set_option maxRecDepth 100000 in
set_option maxHeartbeats 4000000 in
theorem find_own (b off len cap mb n : Nat) (D : DataW Unit) (more : List B) (s : B) (w : World) (hs : RowAt 0 knownCells w) (hsl : s.length ≤ 100000) (hml : more.length ≤ 100000) (hT : MapOf D more) (hO : OwnsA w mb n D) :
    Calls Tryd.prog 22 #[.agg #[(.slice (some ⟨b, off, none⟩) len cap), (.map (some mb))], strV s] w fun e w' => e = .returned (u3 (numT more s)) ∧ Below w.heap.size w w' := by
  have HS := Lib.hid hs
  have hkey := key_of s (by unfold maxLen; omega)
  have HT := Lib.hid hT
  have HO := Lib.hid hO
  clear hT hO
  clear hs
  go_enter Tryd.func22, Tryd.ntmps22
  go_wp2_with (with_reducible refine at_load 54 (.global 0) ?_; refine wpList_load_cells rfl 54 _ rfl 0 rfl knownCells _ (HS.out.alloc _) Tryd.underlying54 rfl size_known ?_)
  refine code_world (fun W => Below w.heap.size w W ∧ Blk W w.heap.size [(.slice (some ⟨b, off, none⟩) len cap), (.map (some mb))]) ⟨by (repeat' (first | with_reducible exact Below.refl _ _ | with_reducible assumption | with_reducible refine q_alloc ?_ _ | with_reducible refine q_drew ?_ | with_reducible refine q_drewN _ ?_ | with_reducible refine q_setCell ?_ ?_ _ | (left; simp; done) | (right; simp; done) | (right; dsimp only; omega) | (left; dsimp only; omega))), Blk.new rfl⟩ ?_
  intro W1 ⟨hq1, b0⟩
  have c0 := b0.cell 0 rfl
  have c1 := b0.cell 1 rfl
  go_loopw [8] (fun i wr => ∃ k : Nat, k ≤ 10 ∧ i = .int .i64 k ∧ Hid (findL (knownL.take k) s = 0) ∧ wr = W1)
    (fun i _ => 10 - (intOf i).toNat)
  case atStart => exact ⟨0, by omega, rfl, Lib.hid rfl, rfl⟩
  case round =>
    obtain ⟨k, hk, rfl, hall, rfl⟩ := hrel
    by_cases hlt : k < 10
    · obtain ⟨a, hka, hix⟩ := known_at k hlt
      have hst := findK_step (s := s) hka hall.out
      clear hka
      generalize knownCells.toArray = KC at hix ⊢
      by_cases he : a = s
      · have hbe : (a == s) = true := by simp [he]
        rw [if_pos he] at hst
        have hf := findL_take (l := knownL) (k := k + 1) (s := s) (by omega)
        rw [hst] at hf
        have hnt : numT more s = k + 1 := by rw [numT_known (by omega), hf]
        have HF := Lib.hid hnt
        have hw1 : IntKind.u32.wrap ((k : Int) + 1) = (k : Int) + 1 := by simp only [IntKind.wrap, IntKind.bits, IntKind.signed]; simp; omega
        clear hf hst hall he hnt
        go_wp2_with fail
        go_returns
        exact ⟨by rw [HF.out]; first | rfl | simp [hw1], hq1⟩
      · have hbe : (a == s) = false := by simp [he]
        rw [if_neg he] at hst
        have HF := Lib.hid hst
        clear hst hall he
        go_wp2_with fail
        go_roundw
        case rel => exact ⟨k + 1, by omega, by go_num, HF, by trivial⟩
        case measure => simp [intOf]; omega
    · have hkl : k = 10 := by omega
      subst hkl
      have hf : findL knownL s = 0 := hall.out
      have hnt := numT_more (more := more) hf
      have HF := Lib.hid hnt
      clear hf hall hnt
      have hown : OwnsA wr mb n D := ownsA_below HO.out hq1
      go_wp2_with (at_lookup; refine wpList_lookup_own_int _ rfl _ _ 28 rfl 9 25 .u32 (string_keyed und_str) und_amap und_atom (zero_atom _) mb n D rfl hown (strV s) (.string s) rfl hkey ?_)
      intro c hc hwf
      have hcc : c = numM more s := by
        have := (HT.out).2 s
        rw [this] at hc
        simpa using hc.symm
      subst hcc
      go_wp2_with fail
      go_returns
      exact ⟨by rw [HF.out]; rfl, hq1⟩

theorem find_any (sv mv : Value) (more : List B) (s : B) (w : World) (hs : RowAt 0 knownCells w) (hsl : s.length ≤ 100000) (hml : more.length ≤ 100000) (hT : TabOf w sv mv more) :
    Calls Tryd.prog 22 #[.agg #[sv, mv], strV s] w fun e w' => e = .returned (u3 (numT more s)) ∧ Below w.heap.size w w' := by
  rcases hT with ⟨h, rfl, rfl⟩ | ⟨h0, ⟨b, off, cap, rfl, _, _, _, _⟩, mb, D, rfl, h7, h8⟩
  · exact find_nil more s w hs hsl hml h
  · exact find_own b off more.length cap mb more.length D more s w hs hsl hml h8 h7
end Go.Proofs.YtdkdpjlkjamemaaDoor
