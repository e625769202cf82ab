import Derived.Test.YtligdolhokjgmaaDoorRop6
namespace Go.Proofs.YtligdolhokjgmaaDoor
open Go Go.RowKit

def nm : Nat → ByteArray
  | 0 => ⟨#[99, 108, 101, 97, 114]⟩
  | 1 => ⟨#[97, 110, 100]⟩
  | 2 => ⟨#[97, 110, 100, 45, 114, 101, 118, 101, 114, 115, 101]⟩
  | 3 => ⟨#[99, 111, 112, 121]⟩
  | 4 => ⟨#[97, 110, 100, 45, 105, 110, 118, 101, 114, 116, 101, 100]⟩
  | 5 => ⟨#[110, 111, 45, 111, 112]⟩
  | 6 => ⟨#[120, 111, 114]⟩
  | 7 => ⟨#[111, 114]⟩
  | 8 => ⟨#[110, 111, 114]⟩
  | 9 => ⟨#[101, 113, 117, 105, 118]⟩
  | 10 => ⟨#[105, 110, 118, 101, 114, 116]⟩
  | 11 => ⟨#[111, 114, 45, 114, 101, 118, 101, 114, 115, 101]⟩
  | 12 => ⟨#[99, 111, 112, 121, 45, 105, 110, 118, 101, 114, 116, 101, 100]⟩
  | 13 => ⟨#[111, 114, 45, 105, 110, 118, 101, 114, 116, 101, 100]⟩
  | 14 => ⟨#[110, 97, 110, 100]⟩
  | 15 => ⟨#[115, 101, 116]⟩
  | _ => ⟨#[]⟩
def ofN (s : ByteArray) : Int :=
  if (nm 0).toList == s.toList then 0 else if (nm 1).toList == s.toList then 1 else if (nm 2).toList == s.toList then 2 else if (nm 3).toList == s.toList then 3 else if (nm 4).toList == s.toList then 4 else if (nm 5).toList == s.toList then 5 else if (nm 6).toList == s.toList then 6 else if (nm 7).toList == s.toList then 7 else if (nm 8).toList == s.toList then 8 else if (nm 9).toList == s.toList then 9 else if (nm 10).toList == s.toList then 10 else if (nm 11).toList == s.toList then 11 else if (nm 12).toList == s.toList then 12 else if (nm 13).toList == s.toList then 13 else if (nm 14).toList == s.toList then 14 else if (nm 15).toList == s.toList then 15 else 16

theorem ofN_nm (op : Int) (h : 0 ≤ op) (h' : op < 16) : ofN (nm op.toNat) = op := by
  rcases sixteen h h' with rfl | rfl | rfl | rfl | rfl | rfl | rfl | rfl | rfl | rfl | rfl | rfl | rfl | rfl | rfl | rfl <;> simp only [ofN, ByteArray.toList_eq] <;> decide
theorem ofN_empty : ofN ⟨#[]⟩ = 16 := by simp only [ofN, ByteArray.toList_eq]; decide

theorem lmixes_any (op : Int) (s d p : BitVec 8) (a b : Bool) (w : World) (hs : RowAt 0 nameCells w) :
    Calls Tryd.prog 3 #[.int .i64 op, u8v s, u8v d, u8v p, .bool a, .bool b] w fun e w' => e = .returned (.bool true) ∧ Below w.heap.size w w' := by
  go_enter Tryd.func3, Tryd.ntmps3
  go_wp2_with fail
  refine (awake_any _ hs).mono ?_
  rintro e w1 ⟨rfl, hq⟩
  clear hs
  go_wp2_with fail
  refine (mix_any _ _ _ _ _ s d p rfl rfl rfl).mono ?_
  rintro e w1 ⟨rfl, rfl⟩
  go_wp2_with fail
  refine (rmix_any _ s d p _).mono ?_
  rintro e w1 ⟨rfl, rfl⟩
  go_wp2_with fail
  refine (pbit_any _ _ _ _).mono ?_
  rintro e w1 ⟨rfl, rfl⟩
  go_wp2_with fail
  refine (rbit_any _ _ _ _).mono ?_
  rintro e w1 ⟨rfl, rfl⟩
  go_wp2
  go_returns
  exact ⟨ret_bool (by simp), hq⟩

/-- What the program's Of tells. -/
def ofRes (s : ByteArray) : Value := .tuple #[.int .i64 (if ofN s < 16 then ofN s else 0), .bool (decide (ofN s < 16))]
/-- What the document's Of tells. -/
def rofRes (s : ByteArray) : Value := .int .i64 (if ofN s < 16 then ofN s else -1)

theorem u44 : (Tryd.prog.info? 44).map (·.size) = some nameCells.length := by kernel_rfl
theorem ix0 : ∀ w, (Instr.index 44 (.agg nameCells.toArray) (.int .i64 0)).run Tryd.prog w = .ok (.string (nm 0)) w := fun _ => by kernel_rfl
theorem ix1 : ∀ w, (Instr.index 44 (.agg nameCells.toArray) (.int .i64 1)).run Tryd.prog w = .ok (.string (nm 1)) w := fun _ => by kernel_rfl
theorem ix2 : ∀ w, (Instr.index 44 (.agg nameCells.toArray) (.int .i64 2)).run Tryd.prog w = .ok (.string (nm 2)) w := fun _ => by kernel_rfl
theorem ix3 : ∀ w, (Instr.index 44 (.agg nameCells.toArray) (.int .i64 3)).run Tryd.prog w = .ok (.string (nm 3)) w := fun _ => by kernel_rfl
theorem ix4 : ∀ w, (Instr.index 44 (.agg nameCells.toArray) (.int .i64 4)).run Tryd.prog w = .ok (.string (nm 4)) w := fun _ => by kernel_rfl
theorem ix5 : ∀ w, (Instr.index 44 (.agg nameCells.toArray) (.int .i64 5)).run Tryd.prog w = .ok (.string (nm 5)) w := fun _ => by kernel_rfl
theorem ix6 : ∀ w, (Instr.index 44 (.agg nameCells.toArray) (.int .i64 6)).run Tryd.prog w = .ok (.string (nm 6)) w := fun _ => by kernel_rfl
theorem ix7 : ∀ w, (Instr.index 44 (.agg nameCells.toArray) (.int .i64 7)).run Tryd.prog w = .ok (.string (nm 7)) w := fun _ => by kernel_rfl
theorem ix8 : ∀ w, (Instr.index 44 (.agg nameCells.toArray) (.int .i64 8)).run Tryd.prog w = .ok (.string (nm 8)) w := fun _ => by kernel_rfl
theorem ix9 : ∀ w, (Instr.index 44 (.agg nameCells.toArray) (.int .i64 9)).run Tryd.prog w = .ok (.string (nm 9)) w := fun _ => by kernel_rfl
theorem ix10 : ∀ w, (Instr.index 44 (.agg nameCells.toArray) (.int .i64 10)).run Tryd.prog w = .ok (.string (nm 10)) w := fun _ => by kernel_rfl
theorem ix11 : ∀ w, (Instr.index 44 (.agg nameCells.toArray) (.int .i64 11)).run Tryd.prog w = .ok (.string (nm 11)) w := fun _ => by kernel_rfl
theorem ix12 : ∀ w, (Instr.index 44 (.agg nameCells.toArray) (.int .i64 12)).run Tryd.prog w = .ok (.string (nm 12)) w := fun _ => by kernel_rfl
theorem ix13 : ∀ w, (Instr.index 44 (.agg nameCells.toArray) (.int .i64 13)).run Tryd.prog w = .ok (.string (nm 13)) w := fun _ => by kernel_rfl
theorem ix14 : ∀ w, (Instr.index 44 (.agg nameCells.toArray) (.int .i64 14)).run Tryd.prog w = .ok (.string (nm 14)) w := fun _ => by kernel_rfl
theorem ix15 : ∀ w, (Instr.index 44 (.agg nameCells.toArray) (.int .i64 15)).run Tryd.prog w = .ok (.string (nm 15)) w := fun _ => by kernel_rfl

set_option maxHeartbeats 2000000 in
theorem of_any (s : ByteArray) (w : World) (hs : RowAt 0 nameCells w) :
    Calls Tryd.prog 18 #[.string s] w fun e w' => e = .returned (ofRes s) ∧ w = w' := by
  have i0 := ix0
  have i1 := ix1
  have i2 := ix2
  have i3 := ix3
  have i4 := ix4
  have i5 := ix5
  have i6 := ix6
  have i7 := ix7
  have i8 := ix8
  have i9 := ix9
  have i10 := ix10
  have i11 := ix11
  have i12 := ix12
  have i13 := ix13
  have i14 := ix14
  have i15 := ix15
  go_enter Tryd.func18, Tryd.ntmps18
  go_wp2_with (refine wpList_load_cells rfl 44 _ rfl 0 rfl nameCells _ hs Tryd.underlying44 rfl u44 ?_)
  refine wp_loop_rounds 17 ?_
  repeat (any_goals (rw [rounds_succ]; go_wp2_with fail))
  all_goals go_returns
  all_goals refine ⟨?_, rfl⟩
  all_goals simp [ofRes, ofN, *]

theorem names_any (w : World) :
    Calls Tryd.prog 17 #[] w fun e w' => e = .returned (.slice (some ⟨w.heap.size, 0, none⟩) 16 16) ∧ w.alloc (.cells #[.string (nm 0), .string (nm 1), .string (nm 2), .string (nm 3), .string (nm 4), .string (nm 5), .string (nm 6), .string (nm 7), .string (nm 8), .string (nm 9), .string (nm 10), .string (nm 11), .string (nm 12), .string (nm 13), .string (nm 14), .string (nm 15)] 9) = w' := by
  go_enter Tryd.func17, Tryd.ntmps17
  go_wp2
  go_returns
  exact ⟨rfl, rfl⟩

set_option maxHeartbeats 2000000 in
theorem rof_any (s : ByteArray) (w : World) :
    Calls Tryd.prog 19 #[.string s] w fun e w' => e = .returned (rofRes s) ∧ Below w.heap.size w w' := by
  go_enter Tryd.func19, Tryd.ntmps19
  go_wp2_with fail
  refine (names_any _).mono ?_
  rintro e w1 ⟨rfl, rfl⟩
  go_wp2_with fail
  refine wp_loop_rounds 17 ?_
  rw [rounds_succ]
  go_wp2_with fail
  repeat (any_goals (rw [rounds_succ]; go_wp2_with fail))
  all_goals go_returns
  all_goals refine ⟨?_, by (repeat' (first | exact Below.refl _ _ | assumption | refine q_alloc ?_ _ | refine q_drew ?_ | refine q_drewN _ ?_ | refine q_setCell ?_ ?_ _ | (left; simp; done) | (right; simp; done) | (right; omega)))⟩
  all_goals simp [rofRes, ofN, *]

theorem name_in (op : Int) (w : World) (hs : RowAt 0 nameCells w) (h : 0 ≤ op) (h' : op < 16) :
    Calls Tryd.prog 15 #[.int .i64 op] w fun e w' => e = .returned (.string (nm op.toNat)) ∧ w = w' := by
  have hc : ∀ i, i < 16 → w.cell? ⟨0, i, none⟩ = some (.string (nm i)) := by
    intro i hi
    have hi' : i = 0 ∨ i = 1 ∨ i = 2 ∨ i = 3 ∨ i = 4 ∨ i = 5 ∨ i = 6 ∨ i = 7 ∨ i = 8 ∨ i = 9 ∨ i = 10 ∨ i = 11 ∨ i = 12 ∨ i = 13 ∨ i = 14 ∨ i = 15 := by omega
    rcases hi' with rfl | rfl | rfl | rfl | rfl | rfl | rfl | rfl | rfl | rfl | rfl | rfl | rfl | rfl | rfl | rfl <;> exact hs.at_ _ _ rfl
  have hd : decide (op ≤ 15) = true := by simp; omega
  obtain ⟨n, rfl⟩ := Int.eq_ofNat_of_zero_le h
  have c1 := hc n (by omega)
  clear hs hc
  go_enter Tryd.func15, Tryd.ntmps15
  go_wp2
  go_returns
  exact ⟨by simp, rfl⟩

theorem name_out (op : Int) (w : World) (h : op < 0 ∨ 16 ≤ op) :
    Calls Tryd.prog 15 #[.int .i64 op] w fun e w' => e = .returned (.string ⟨#[]⟩) ∧ w = w' := by
  have h1 : 0 ≤ op → decide (op ≤ 15) = false := by intro _; simp; omega
  rcases h with h | h
  all_goals
    first | (have hd2 := h1 (by omega); clear h1) | clear h1
    go_enter Tryd.func15, Tryd.ntmps15
    go_wp2
    go_returns
    exact ⟨rfl, rfl⟩
end Go.Proofs.YtligdolhokjgmaaDoor
