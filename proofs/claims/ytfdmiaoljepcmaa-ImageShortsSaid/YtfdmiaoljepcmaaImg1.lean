/- Layer 25: a strings.Builder, written and read. -/
import Derived.Test.YtfdmiaoljepcmaaShelf25
import Derived.Test.YtfdmiaoljepcmaaStr
import Derived.Outline
import Derived.Handy
import Derived.KernelRfl
import Derived.Lib.Hide
import Derived.WalkKit
import Derived.OwnWalk
import Derived.Deep.QuietTactic
import Derived.BigQuiet
import Derived.Lib.AppendStr
namespace Go.Proofs.Ytfdmiaoljepcmaa
open Go Go.RowKit
set_option linter.unusedSimpArgs false
set_option linter.unusedVariables false
abbrev i6 (n : Int) : Value := .int .i64 n

theorem info_parts' {P : Program} {e : TypeId} {r : Option Value × Nat × Nat} (h : (P.info? e).map (fun i => (i.zero, i.size, i.bytes)) = some r) : ∃ i, P.info? e = some i ∧ i.zero = r.1 ∧ i.size = r.2.1 ∧ i.bytes = r.2.2 := by
  obtain ⟨i, hi, he⟩ := Option.map_eq_some_iff.1 h
  subst he
  exact ⟨i, hi, rfl, rfl, rfl⟩
theorem info_byte : (Try.prog.info? 5).map (fun i => (i.zero, i.size, i.bytes)) = some (some (u8v 0), 1, 1) := by kernel_rfl
theorem und_bytes : Try.prog.underlying 28 = some (.slice 5) := by kernel_rfl
theorem und_byte : Try.prog.underlying 5 = some (.int .u8) := by kernel_rfl
theorem und_string : Try.prog.underlying 9 = some .string := by kernel_rfl

/-- The builder in block b holds the bytes xs. -/
abbrev Bld (B b : Nat) (xs : List Int) (w : World) : Prop := Lib.IsBuilder 37 5 B b (xs.map u8v) w
abbrev BldU (B b : Nat) (xs : List Int) (w : World) : Prop := Lib.BuilderAt 37 5 B b (.pointer (some ⟨b, 0, none⟩)) (xs.map u8v) w

theorem cells_bytes {xs : List Int} (h : IsBytes xs) : Lib.byteCells (xs.map fun n => UInt8.ofNat n.toNat) = xs.map u8v := by
  unfold Lib.byteCells
  rw [List.map_map]
  apply List.map_congr_left
  intro x hx
  have := h x hx
  simp only [Function.comp, UInt8.toNat_ofNat', u8v]
  congr 1
  omega
theorem cells_str {xs : List Int} (h : IsBytes xs) : Lib.strCells (strOfNums xs) = xs.map u8v := cells_bytes h

theorem len_any (B b : Nat) (xs : List Int) (w : World) (h : Bld B b xs w) :
    Calls Try.prog 13 #[.pointer (some ⟨b, 0, none⟩)] w fun e w' => e = .returned (i6 xs.length) ∧ w = w' := by
  have := Try.Builder_Len B b (xs.map u8v) w h
  rw [List.length_map] at this
  exact this.mono fun e w' ⟨h1, h2⟩ => ⟨h1, h2.symm⟩
theorem str_any (B b : Nat) (xs : List Int) (w : World) (hx : IsBytes xs) (h : Bld B b xs w) (hB : B ≤ w.heap.size) :
    Calls Try.prog 15 #[.pointer (some ⟨b, 0, none⟩)] w fun e w' => e = .returned (.string (strOfNums xs)) ∧ Below B w w' :=
  Try.Builder_String_any B b (xs.map fun (n : Int) => UInt8.ofNat n.toNat) w (by rw [cells_bytes hx]; exact h) hB

theorem size_builder : (Try.prog.info? 37).map (·.size) = some 2 := by kernel_rfl
theorem lies_builder : liesAt Try.prog Try.prog.depth 37 (2 / Try.prog.cellsOf 37) 0 37 1 = true := by kernel_rfl

set_option maxRecDepth 100000 in
theorem check_any (B b : Nat) (xs : List Int) (w : World) (h : Bld B b xs w) :
    Calls Try.prog 21 #[.pointer (some ⟨b, 0, none⟩)] w fun e w' => e = .returned (.tuple #[]) ∧ BldU B b xs w' ∧ Below B w w' := by
  rcases h with h | h
  · have c0 := h.cell0
    have f0 := h.frozen0
    have sh := h.shape
    obtain ⟨j, hj, hjs⟩ := Option.map_eq_some_iff.1 size_builder
    go_enter Try.func21, Try.ntmps21
    go_wp2
    rw [Lib.run_to_unsafe w ⟨b, 0, none⟩ Try.underlying35 Try.underlying55 hj (by rw [hjs]; decide) sh (Nat.zero_lt_succ 1)]
    simp only [Result.andThen]
    rw [Oper.upon_value]
    go_wp2
    try rw [run_callFunc_extern Try.func25 (by kernel_rfl) (by kernel_rfl) (by kernel_rfl) (e := Extern.AbiNoEscape.same) (by kernel_rfl)]
    try rw [Lib.run_noEscape]
    try simp only [Result.andThen]
    try rw [Oper.upon_value]
    try go_wp2
    rw [Lib.run_from_unsafe w ⟨b, 0, none⟩ Try.underlying55 Try.underlying35 hj sh lies_builder]
    simp only [Result.andThen]
    rw [Oper.upon_value]
    go_wp2
    go_returns
    exact ⟨rfl, h.used _, (Below.refl B w).setCell (p := ⟨b, 0, none⟩) h.1 _⟩
  · have c0 := h.cell0
    have sh := h.shape
    obtain ⟨j, hj, hjs⟩ := Option.map_eq_some_iff.1 size_builder
    go_enter Try.func21, Try.ntmps21
    go_wp2
    rw [Lib.run_neq_ptr_same w _ Try.underlying35 hj]
    go_wp2
    go_returns
    exact ⟨rfl, h, Below.refl B _⟩

set_option maxRecDepth 100000 in
set_option maxHeartbeats 1000000 in
theorem byte_any (B b : Nat) (xs : List Int) (c : Int) (w : World) (h : Bld B b xs w) (hlen : xs.length ≤ 1000000) (hBw : B ≤ w.heap.size) :
    Calls Try.prog 17 #[.pointer (some ⟨b, 0, none⟩), u8v c] w fun e w' => e = .returned .nilIface ∧ Bld B b (xs ++ [c]) w' ∧ Below B w w' := by
  obtain ⟨i0, hi, hz0, hz1, hz2⟩ := info_parts' info_byte
  have hl : (xs.map u8v).length = xs.length := List.length_map _
  go_enter Try.func17, Try.ntmps17
  go_wp2_with fail
  refine (check_any B b xs _ h).mono ?_
  rintro e w1 ⟨rfl, ⟨hB, v, hbk, hown, hne⟩, hb1⟩
  have c1 : w1.cell? ⟨b, 1, none⟩ = some v := by rw [Lib.cell_of_heap hbk]; rfl
  have hown0 := Lib.hid hown
  clear hown
  go_wp2_with (first
    | (at_builtin; refine wpList_append_own _ rfl _ _ 28 rfl B 5 i0 (.int .u8 0) 1 1 und_bytes hi hz0 hz1 hz2 rfl (by decide) _ _ _ rfl (hown0.out.alloc _) ⟨w1.heap.size, 0, none⟩ 1 1 [u8v c] rfl rfl ?c1 ?c2 ?c3 ?c4 ?c5 ?_)
    | fail)
  case c1 =>
    intro j u hj
    match j, hj with
    | 0, hj => simp at hj; subst hj; exact cell_new rfl
  case c2 => intro u hu; simp at hu; subst hu; rfl
  case c3 => unfold maxLen; omega
  case c4 => omega
  case c5 => have := hb1.size; simp; omega
  intro v' w2 hown' hgrow _
  obtain ⟨ao, n', cap, rfl⟩ : ∃ ao n' cap, v' = .slice ao n' cap := by
    rcases hown'.2 with ⟨hv, _⟩ | ⟨g, cap, cur, hv, _⟩
    · exact ⟨_, _, _, hv⟩
    · exact ⟨_, _, _, hv⟩
  have hlt : b < w1.heap.size := (Array.getElem?_eq_some_iff.1 hbk).1
  have hb2 : w2.heap[b]? = some (.cells #[.pointer (some ⟨b, 0, none⟩), v] 37 (0, 0)) := by
    rw [hgrow.block b (by simp; omega) (fun e => hne e.symm), Lib.alloc_old w1 _ b hlt]
    exact hbk
  have d1 : w2.cell? ⟨b, 1, none⟩ = some v := by rw [Lib.cell_of_heap hb2]; rfl
  have f1 : w2.frozen? ⟨b, 1, none⟩ = false := Lib.frozen_of_heap hb2 1
  have hfin := Lib.BuilderAt.put (T := 37) (e := 5) hB hb2 (v' := .slice ao n' cap) (bs' := xs.map u8v ++ [u8v c]) (by rw [List.length_append, List.length_map]; exact hown') (by decide)
  have hbel : Below B w (w2.setCell ⟨b, 1, none⟩ (.slice ao n' cap)) := ((hb1.alloc (by have := hb1.size; omega) _).grown hgrow (by have := hb1.size; simp; omega) (fun k hk => (hown0.out.lt k hk).1)).setCell (p := ⟨b, 1, none⟩) hB _
  have hbld : Bld B b (xs ++ [c]) (w2.setCell ⟨b, 1, none⟩ (.slice ao n' cap)) := by
    have : (xs ++ [c]).map u8v = xs.map u8v ++ [u8v c] := by simp
    unfold Bld
    rw [this]
    exact Or.inr hfin
  clear hown' hgrow hb2 hbk hfin
  go_wp2_with fail
  go_returns
  exact ⟨rfl, hbld, hbel⟩

set_option maxRecDepth 100000 in
set_option maxHeartbeats 1000000 in
theorem string_any (B b : Nat) (xs ys : List Int) (w : World) (h : Bld B b xs w) (hy : IsBytes ys) (hlen : xs.length + ys.length ≤ 1000000) (hBw : B ≤ w.heap.size) :
    Calls Try.prog 14 #[.pointer (some ⟨b, 0, none⟩), .string (strOfNums ys)] w fun e w' => e = .returned (.tuple #[i6 ys.length, .nilIface]) ∧ Bld B b (xs ++ ys) w' ∧ Below B w w' := by
  obtain ⟨i0, hi, hz0, hz1, hz2⟩ := info_parts' info_byte
  have hl : (xs.map u8v).length = xs.length := List.length_map _
  have hsz := strOfNums_size ys
  go_enter Try.func14, Try.ntmps14
  go_wp2_with fail
  refine (check_any B b xs _ h).mono ?_
  rintro e w1 ⟨rfl, ⟨hB, v, hbk, hown, hne⟩, hb1⟩
  have c1 : w1.cell? ⟨b, 1, none⟩ = some v := by rw [Lib.cell_of_heap hbk]; rfl
  have hown0 := Lib.hid hown
  clear hown
  go_wp2_with (first
    | (at_builtin; refine Lib.wpList_append_own_string _ rfl _ _ 28 9 rfl B 5 i0 und_bytes und_string hi hz0 hz1 hz2 _ _ _ rfl hown0.out (strOfNums ys) rfl ?c3 ?c4 ?c5 ?_)
    | fail)
  case c3 => unfold maxLen; omega
  case c4 => omega
  case c5 => have := hb1.size; omega
  intro v' w2 hown' hgrow _
  obtain ⟨ao, n', cap, rfl⟩ : ∃ ao n' cap, v' = .slice ao n' cap := by
    rcases hown'.2 with ⟨hv, _⟩ | ⟨g, cap, cur, hv, _⟩
    · exact ⟨_, _, _, hv⟩
    · exact ⟨_, _, _, hv⟩
  have hlt : b < w1.heap.size := (Array.getElem?_eq_some_iff.1 hbk).1
  have hb2 : w2.heap[b]? = some (.cells #[.pointer (some ⟨b, 0, none⟩), v] 37 (0, 0)) := by
    rw [hgrow.block b hlt (fun e => hne e.symm)]
    exact hbk
  have d1 : w2.cell? ⟨b, 1, none⟩ = some v := by rw [Lib.cell_of_heap hb2]; rfl
  have f1 : w2.frozen? ⟨b, 1, none⟩ = false := Lib.frozen_of_heap hb2 1
  have hfin := Lib.BuilderAt.put (T := 37) (e := 5) hB hb2 (v' := .slice ao n' cap) (bs' := xs.map u8v ++ Lib.strCells (strOfNums ys)) (by rw [List.length_append, List.length_map, Lib.strCells_length, hsz]; exact hown') (by decide)
  have hbel : Below B w (w2.setCell ⟨b, 1, none⟩ (.slice ao n' cap)) := (hb1.grown hgrow (by have := hb1.size; omega) (fun k hk => (hown0.out.lt k hk).1)).setCell (p := ⟨b, 1, none⟩) hB _
  have hbld : Bld B b (xs ++ ys) (w2.setCell ⟨b, 1, none⟩ (.slice ao n' cap)) := by
    have : (xs ++ ys).map u8v = xs.map u8v ++ Lib.strCells (strOfNums ys) := by rw [cells_str hy, List.map_append]
    unfold Bld
    rw [this]
    exact Or.inr hfin
  clear hown' hgrow hb2 hbk hfin
  go_wp2_with fail
  go_returns
  exact ⟨by first | rfl | (simp; done), hbld, hbel⟩
end Go.Proofs.Ytfdmiaoljepcmaa
