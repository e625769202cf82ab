/- Layer 3: sizes that may be; forms that may be; CodeFirst's walk. -/
import Derived.Test.YtbffnobchjiaeaaDoorCd19
import Derived.Deep.RegionWith
import Derived.Laws.BytesArg
import Derived.Deep.OwnRows
namespace Go.Proofs.YtbffnobchjiaeaaDoor
open Go Go.RowKit
set_option linter.unusedSimpArgs false
set_option linter.unusedVariables false
def IsSpan (s n lo hi : Int) : Prop := (s = 1 ∧ n = 1 ∧ lo = 0 ∧ hi = 255) ∨ (s = 2 ∧ n = 2 ∧ lo = 0 ∧ hi = 65535) ∨ (s = 4 ∧ n = 4 ∧ lo = 0 ∧ hi = 4294967295) ∨ (s = -1 ∧ n = 1 ∧ lo = -128 ∧ hi = 127) ∨ (s = -2 ∧ n = 2 ∧ lo = -32768 ∧ hi = 32767) ∨ (s = -4 ∧ n = 4 ∧ lo = -2147483648 ∧ hi = 2147483647)
abbrev spanV (a b c d : Int) : Value := .agg #[i6 a, i6 b, i6 c, i6 d]
def spanCells : List Value := [i6 1, i6 1, i6 0, i6 255, i6 2, i6 2, i6 0, i6 65535, i6 4, i6 4, i6 0, i6 4294967295, i6 (-1), i6 1, i6 (-128), i6 127, i6 (-2), i6 2, i6 (-32768), i6 32767, i6 (-4), i6 4, i6 (-2147483648), i6 2147483647]
theorem size98 : (Tryd.prog.info? 81).map (·.size) = some spanCells.length := by kernel_rfl
theorem ix0 : ∀ w, (Instr.index 81 (.agg spanCells.toArray) (.int .i64 0)).run Tryd.prog w = .ok (spanV (1) (1) (0) (255)) w := fun _ => by kernel_rfl
theorem ix1 : ∀ w, (Instr.index 81 (.agg spanCells.toArray) (.int .i64 1)).run Tryd.prog w = .ok (spanV (2) (2) (0) (65535)) w := fun _ => by kernel_rfl
theorem ix2 : ∀ w, (Instr.index 81 (.agg spanCells.toArray) (.int .i64 2)).run Tryd.prog w = .ok (spanV (4) (4) (0) (4294967295)) w := fun _ => by kernel_rfl
theorem ix3 : ∀ w, (Instr.index 81 (.agg spanCells.toArray) (.int .i64 3)).run Tryd.prog w = .ok (spanV (-1) (1) (-128) (127)) w := fun _ => by kernel_rfl
theorem ix4 : ∀ w, (Instr.index 81 (.agg spanCells.toArray) (.int .i64 4)).run Tryd.prog w = .ok (spanV (-2) (2) (-32768) (32767)) w := fun _ => by kernel_rfl
theorem ix5 : ∀ w, (Instr.index 81 (.agg spanCells.toArray) (.int .i64 5)).run Tryd.prog w = .ok (spanV (-4) (4) (-2147483648) (2147483647)) w := fun _ => by kernel_rfl


theorem find_kind (o s : Int) (w : World) (h : ¬ (o = 0 ∨ o = 1)) :
    Calls Tryd.prog 44 #[i6 o, i6 s] w fun e w' => e = .returned (.tuple #[spanV 0 0 0 0, i6 10]) ∧ Below w.heap.size w w' := by
  have h1 : (o != 0) = true := by simp; omega
  have h2 : (o != 1) = true := by simp; omega
  go_enter Tryd.func44, Tryd.ntmps44
  go_wp2
  go_returns
  refine ⟨rfl, ?_⟩
  go_grown

theorem find_at0 (o : Int) (w : World) (hs : RowAt 2 spanCells w) (h : o = 0 ∨ o = 1) :
    Calls Tryd.prog 44 #[i6 o, i6 (1)] w fun e w' => e = .returned (.tuple #[spanV (1) (1) (0) (255), i6 0]) ∧ Below w.heap.size w w' := by
  have i0 := ix0
  have i1 := ix1
  have i2 := ix2
  have i3 := ix3
  have i4 := ix4
  have i5 := ix5
  rcases h with rfl | rfl
  all_goals
    go_enter Tryd.func44, Tryd.ntmps44
    go_wp2_with (refine wpList_load_cells rfl 81 _ rfl 2 rfl spanCells _ (hs.alloc _) Tryd.underlying81 rfl size98 ?_)
    go_rounds 7
    go_returns
    refine ⟨rfl, ?_⟩
    go_grown

theorem find_at1 (o : Int) (w : World) (hs : RowAt 2 spanCells w) (h : o = 0 ∨ o = 1) :
    Calls Tryd.prog 44 #[i6 o, i6 (2)] w fun e w' => e = .returned (.tuple #[spanV (2) (2) (0) (65535), i6 0]) ∧ Below w.heap.size w w' := by
  have i0 := ix0
  have i1 := ix1
  have i2 := ix2
  have i3 := ix3
  have i4 := ix4
  have i5 := ix5
  rcases h with rfl | rfl
  all_goals
    go_enter Tryd.func44, Tryd.ntmps44
    go_wp2_with (refine wpList_load_cells rfl 81 _ rfl 2 rfl spanCells _ (hs.alloc _) Tryd.underlying81 rfl size98 ?_)
    go_rounds 7
    go_returns
    refine ⟨rfl, ?_⟩
    go_grown

theorem find_at2 (o : Int) (w : World) (hs : RowAt 2 spanCells w) (h : o = 0 ∨ o = 1) :
    Calls Tryd.prog 44 #[i6 o, i6 (4)] w fun e w' => e = .returned (.tuple #[spanV (4) (4) (0) (4294967295), i6 0]) ∧ Below w.heap.size w w' := by
  have i0 := ix0
  have i1 := ix1
  have i2 := ix2
  have i3 := ix3
  have i4 := ix4
  have i5 := ix5
  rcases h with rfl | rfl
  all_goals
    go_enter Tryd.func44, Tryd.ntmps44
    go_wp2_with (refine wpList_load_cells rfl 81 _ rfl 2 rfl spanCells _ (hs.alloc _) Tryd.underlying81 rfl size98 ?_)
    go_rounds 7
    go_returns
    refine ⟨rfl, ?_⟩
    go_grown

theorem find_at3 (o : Int) (w : World) (hs : RowAt 2 spanCells w) (h : o = 0 ∨ o = 1) :
    Calls Tryd.prog 44 #[i6 o, i6 (-1)] w fun e w' => e = .returned (.tuple #[spanV (-1) (1) (-128) (127), i6 0]) ∧ Below w.heap.size w w' := by
  have i0 := ix0
  have i1 := ix1
  have i2 := ix2
  have i3 := ix3
  have i4 := ix4
  have i5 := ix5
  rcases h with rfl | rfl
  all_goals
    go_enter Tryd.func44, Tryd.ntmps44
    go_wp2_with (refine wpList_load_cells rfl 81 _ rfl 2 rfl spanCells _ (hs.alloc _) Tryd.underlying81 rfl size98 ?_)
    go_rounds 7
    go_returns
    refine ⟨rfl, ?_⟩
    go_grown

theorem find_at4 (o : Int) (w : World) (hs : RowAt 2 spanCells w) (h : o = 0 ∨ o = 1) :
    Calls Tryd.prog 44 #[i6 o, i6 (-2)] w fun e w' => e = .returned (.tuple #[spanV (-2) (2) (-32768) (32767), i6 0]) ∧ Below w.heap.size w w' := by
  have i0 := ix0
  have i1 := ix1
  have i2 := ix2
  have i3 := ix3
  have i4 := ix4
  have i5 := ix5
  rcases h with rfl | rfl
  all_goals
    go_enter Tryd.func44, Tryd.ntmps44
    go_wp2_with (refine wpList_load_cells rfl 81 _ rfl 2 rfl spanCells _ (hs.alloc _) Tryd.underlying81 rfl size98 ?_)
    go_rounds 7
    go_returns
    refine ⟨rfl, ?_⟩
    go_grown

theorem find_at5 (o : Int) (w : World) (hs : RowAt 2 spanCells w) (h : o = 0 ∨ o = 1) :
    Calls Tryd.prog 44 #[i6 o, i6 (-4)] w fun e w' => e = .returned (.tuple #[spanV (-4) (4) (-2147483648) (2147483647), i6 0]) ∧ Below w.heap.size w w' := by
  have i0 := ix0
  have i1 := ix1
  have i2 := ix2
  have i3 := ix3
  have i4 := ix4
  have i5 := ix5
  rcases h with rfl | rfl
  all_goals
    go_enter Tryd.func44, Tryd.ntmps44
    go_wp2_with (refine wpList_load_cells rfl 81 _ rfl 2 rfl spanCells _ (hs.alloc _) Tryd.underlying81 rfl size98 ?_)
    go_rounds 7
    go_returns
    refine ⟨rfl, ?_⟩
    go_grown

theorem find_size (o : Int) (s : Int) (hn : ¬ (s = 1 ∨ s = 2 ∨ s = 4 ∨ s = -1 ∨ s = -2 ∨ s = -4)) (w : World) (hs : RowAt 2 spanCells w) (h : o = 0 ∨ o = 1) :
    Calls Tryd.prog 44 #[i6 o, i6 s] w fun e w' => e = .returned (.tuple #[spanV 0 0 0 0, i6 17]) ∧ Below w.heap.size w w' := by
  have i0 := ix0
  have i1 := ix1
  have i2 := ix2
  have i3 := ix3
  have i4 := ix4
  have i5 := ix5
  have q0 : ((1 : Int) == s) = false := by simp; omega
  have q1 : ((2 : Int) == s) = false := by simp; omega
  have q2 : ((4 : Int) == s) = false := by simp; omega
  have q3 : ((-1 : Int) == s) = false := by simp; omega
  have q4 : ((-2 : Int) == s) = false := by simp; omega
  have q5 : ((-4 : Int) == s) = false := by simp; omega
  rcases h with rfl | rfl
  all_goals
    go_enter Tryd.func44, Tryd.ntmps44
    go_wp2_with (refine wpList_load_cells rfl 81 _ rfl 2 rfl spanCells _ (hs.alloc _) Tryd.underlying81 rfl size98 ?_)
    go_rounds 7
    go_returns
    refine ⟨rfl, ?_⟩
    go_grown

theorem find_ok (o s n lo hi : Int) (w : World) (hs : RowAt 2 spanCells w) (h : o = 0 ∨ o = 1) (h' : IsSpan s n lo hi) :
    Calls Tryd.prog 44 #[i6 o, i6 s] w fun e w' => e = .returned (.tuple #[spanV s n lo hi, i6 0]) ∧ Below w.heap.size w w' := by
  rcases h' with ⟨rfl, rfl, rfl, rfl⟩ | ⟨rfl, rfl, rfl, rfl⟩ | ⟨rfl, rfl, rfl, rfl⟩ | ⟨rfl, rfl, rfl, rfl⟩ | ⟨rfl, rfl, rfl, rfl⟩ | ⟨rfl, rfl, rfl, rfl⟩
  · exact find_at0 o w hs h
  · exact find_at1 o w hs h
  · exact find_at2 o w hs h
  · exact find_at3 o w hs h
  · exact find_at4 o w hs h
  · exact find_at5 o w hs h

theorem info_byte : (Tryd.prog.info? 5).map (fun i => (i.zero, i.size, i.bytes)) = some (some (.int .u8 0), 1, 1) := by kernel_rfl
theorem und_bytes : Tryd.prog.underlying 72 = some (.slice 5) := by kernel_rfl
theorem und_byte : Tryd.prog.underlying 5 = some (.int .u8) := by kernel_rfl
theorem und_string : Tryd.prog.underlying 9 = some .string := by kernel_rfl
set_option maxRecDepth 100000 in
theorem row_nil (s n lo hi : Int) (w : World) (hs : RowAt 2 spanCells w) (h : IsSpan s n lo hi) :
    Calls Tryd.prog 41 #[i6 0, i6 s, .slice none 0 0] w fun e w' => ∃ b, e = .returned (.tuple #[.string b, i6 0]) ∧ Below w.heap.size w w' := by
  have HN := Lib.hid h
  obtain ⟨i0, hi0, hz0, hz1, hz2⟩ := info_parts info_byte
  clear h
  go_enter Tryd.func41, Tryd.ntmps41
  go_wp2_with fail
  refine (find_ok 0 s n lo hi _ hs (Or.inl rfl) HN.out).mono ?_
  rintro e w1 ⟨rfl, hq⟩
  go_wp2_with (first
    | (at_make; refine wpList_make_row _ rfl _ _ 72 rfl 5 i0 (.int .u8 0) und_bytes hi0 hz0 hz1 rfl .i64 .i64 0 rfl rfl ?cb ?cm ?_)
    | go_in)
  case cb => rw [hz2]; omega
  case cm => omega
  have hq1 : Below w.heap.size w ((w1.alloc (.cells #[i6 s, i6 n, i6 lo, i6 hi] 69)).alloc (.cells (madeCells #[.int .u8 0] 0) 5)) := q_alloc (q_alloc hq _) _
  generalize ((w1.alloc (.cells #[i6 s, i6 n, i6 lo, i6 hi] 69)).alloc (.cells (madeCells #[.int .u8 0] 0) 5)) = W2 at hq1 ⊢
  have hcv := run_convert_bytes_arg (P := Tryd.prog) W2 72 5 und_bytes und_byte (w1.heap.size + 1) 0 0 0 [] rfl (fun i hi => absurd hi (Nat.not_lt_zero _)) 9 und_string
  go_wp2_with fail
  refine wp_loop_rounds 1 ?_
  rw [rounds_succ]
  go_wp2_with fail
  go_returns
  exact ⟨_, by first | rfl | (simp; done), hq1⟩
def sizeB (s : Int) : Bool := s == 1 || s == 2 || s == 4 || s == -1 || s == -2 || s == -4
theorem span_of {s : Int} (h : sizeB s = true) : ∃ n lo hi, IsSpan s n lo hi := by
  unfold sizeB at h
  simp only [Bool.or_eq_true, beq_iff_eq] at h
  rcases h with ((((rfl | rfl) | rfl) | rfl) | rfl) | rfl
  · exact ⟨_, _, _, Or.inl ⟨rfl, rfl, rfl, rfl⟩⟩
  · exact ⟨_, _, _, Or.inr (Or.inl ⟨rfl, rfl, rfl, rfl⟩)⟩
  · exact ⟨_, _, _, Or.inr (Or.inr (Or.inl ⟨rfl, rfl, rfl, rfl⟩))⟩
  · exact ⟨_, _, _, Or.inr (Or.inr (Or.inr (Or.inl ⟨rfl, rfl, rfl, rfl⟩)))⟩
  · exact ⟨_, _, _, Or.inr (Or.inr (Or.inr (Or.inr (Or.inl ⟨rfl, rfl, rfl, rfl⟩))))⟩
  · exact ⟨_, _, _, Or.inr (Or.inr (Or.inr (Or.inr (Or.inr (⟨rfl, rfl, rfl, rfl⟩)))))⟩
theorem isSize_ok (s : Int) (w : World) (hs : RowAt 2 spanCells w) (h : sizeB s = true) : Calls Tryd.prog 34 #[i6 s] w fun e w' => e = .returned (.bool true) ∧ Below w.heap.size w w' := by
  obtain ⟨n, lo, hi, hsp⟩ := span_of h
  have HS := Lib.hid hsp
  clear hsp h
  go_enter Tryd.func34, Tryd.ntmps34
  go_wp2_with fail
  refine (row_nil s n lo hi _ hs HS.out).mono ?_
  rintro e w1 ⟨b, rfl, hb⟩
  go_wp2_with fail
  go_returns
  exact ⟨by first | rfl | (simp; done), hb⟩
def chkB (F : F3) : Bool := F.1.all sizeB && (F.2.2 == 0 || sizeB F.2.2) && decide (F.1.length ≤ 16)
set_option maxRecDepth 100000 in
set_option maxHeartbeats 4000000 in
theorem check_any (F : F3) (fv : Value) (w : World) (hI : IsRow w fv (F.1.map i6)) (hk : chkB F = true) (hs : RowAt 2 spanCells w) :
    Calls Tryd.prog 25 #[.agg #[fv, .bool F.2.1, i6 F.2.2]] w fun e w' => e = .returned (i6 0) ∧ Below w.heap.size w w' := by
  obtain ⟨us, B, l⟩ := F
  unfold chkB at hk
  simp only [Bool.and_eq_true, Bool.or_eq_true, beq_iff_eq, decide_eq_true_eq, List.all_eq_true] at hk
  obtain ⟨⟨k1, k2⟩, k3⟩ := hk
  dsimp only at hI ⊢
  obtain ⟨A1, c1, rfl, hf1⟩ := hI
  rw [List.length_map] at hf1 ⊢
  have HF1 := Lib.hid hf1
  have HS := Lib.hid hs
  clear hf1 hs
  obtain ⟨len, hlen⟩ : ∃ len, us.length = len := ⟨_, rfl⟩
  rw [hlen] at HF1 k3 ⊢
  have HN := Lib.hid hlen
  have HK1 := Lib.hid k1
  clear hlen k1
  have k3' : ¬ (16 : Int) < (len : Int) := by omega
  go_enter Tryd.func25, Tryd.ntmps25
  go_wp2_with fail
  refine code_world (fun W => Below w.heap.size w W ∧ Blk W w.heap.size [.slice A1 len c1, .bool B, i6 l]) ⟨by (repeat' (first | with_reducible exact Below.refl _ _ | with_reducible assumption | with_reducible refine q_alloc ?_ _ | with_reducible refine q_drew ?_ | with_reducible refine q_drewN _ ?_ | with_reducible refine q_setCell ?_ ?_ _ | (left; simp; done) | (right; simp; done) | (right; dsimp only; omega) | (left; dsimp only; omega))), Blk.new rfl⟩ ?_
  intro W1 ⟨J1, b1⟩
  have hzz := b1.lt
  have X2 := Lib.hid (stick (b1.cell 2 rfl))
  have HJ1 := Lib.hid J1
  clear b1 J1
  go_loopw [12] (fun i wr => ∃ k : Nat, k ≤ len ∧ i = .int .i64 k ∧ Below W1.heap.size W1 wr)
    (fun i _ => len - (intOf i).toNat)
  case atStart => exact ⟨0, Nat.zero_le _, rfl, Below.refl _ _⟩
  case round =>
    obtain ⟨k, hk, rfl, J⟩ := hrel
    by_cases hlt : k < len
    · obtain ⟨b, off, rfl, hb, hlay⟩ := HF1.out (by omega)
      obtain ⟨u, hu⟩ : ∃ u, us[k]? = some u := ⟨_, List.getElem?_eq_getElem (by rw [HN.out]; exact hlt)⟩
      have hlk : (us.map i6)[k]? = some (i6 u) := by rw [List.getElem?_map, hu]; rfl
      have J9 := q_step HJ1.out J
      have d0 := cell_below J9 (hlay k _ hlk)
      have hsz := HK1.out u (List.mem_of_getElem? hu)
      have HSZ := Lib.hid hsz
      clear hlay hlk hu hsz
      have hki : (k : Int) < (len : Int) := by omega
      go_wp2_with fail
      refine (isSize_ok u _ (HS.out.below J9) HSZ.out).mono ?_
      rintro e w5 ⟨rfl, hb5⟩
      have J2 : Below W1.heap.size W1 w5 := q_step J hb5
      clear hb5 J9 J
      go_wp2_with fail
      go_roundw
      case rel => exact ⟨k + 1, by omega, by go_num, J2⟩
      case measure => simp [intOf] <;> omega
    · obtain rfl : k = len := by omega
      have d2 := X2.out _ J
      have hq := q_step HJ1.out J
      by_cases hl0 : l = 0
      · subst hl0
        go_wp2_with fail
        go_returns
        exact ⟨by first | rfl | (simp; done), hq⟩
      · have hsz := k2.resolve_left hl0
        have el : (l != 0) = true := by simpa using hl0
        have HSZ := Lib.hid hsz
        clear k2 hsz
        go_wp2_with fail
        refine (isSize_ok l _ (HS.out.below hq) HSZ.out).mono ?_
        rintro e w5 ⟨rfl, hb5⟩
        go_wp2_with fail
        go_returns
        exact ⟨by first | rfl | (simp; done), q_step hq hb5⟩
end Go.Proofs.YtbffnobchjiaeaaDoor
