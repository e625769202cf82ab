/- Layer 16: the names of the gravities; the walk of GravityNames. -/
import Derived.Test.YtamcgdepipebeaaDoorGrav7
namespace Go.Proofs.YtamcgdepipebeaaDoor
open Go Go.RowKit
set_option linter.unusedSimpArgs false
set_option linter.unusedVariables false

def nm : Nat → ByteArray
  | 0 => ⟨#[102, 111, 114, 103, 101, 116]⟩
  | 1 => ⟨#[110, 111, 114, 116, 104, 45, 119, 101, 115, 116]⟩
  | 2 => ⟨#[110, 111, 114, 116, 104]⟩
  | 3 => ⟨#[110, 111, 114, 116, 104, 45, 101, 97, 115, 116]⟩
  | 4 => ⟨#[119, 101, 115, 116]⟩
  | 5 => ⟨#[99, 101, 110, 116, 101, 114]⟩
  | 6 => ⟨#[101, 97, 115, 116]⟩
  | 7 => ⟨#[115, 111, 117, 116, 104, 45, 119, 101, 115, 116]⟩
  | 8 => ⟨#[115, 111, 117, 116, 104]⟩
  | 9 => ⟨#[115, 111, 117, 116, 104, 45, 101, 97, 115, 116]⟩
  | 10 => ⟨#[115, 116, 97, 116, 105, 99]⟩
  | _ => ⟨#[]⟩
def ofN (s : ByteArray) : Int :=
  if (nm 0).toList == s.toList then 0 else if (nm 1).toList == s.toList then 1 else if (nm 2).toList == s.toList then 2 else if (nm 3).toList == s.toList then 3 else if (nm 4).toList == s.toList then 4 else if (nm 5).toList == s.toList then 5 else if (nm 6).toList == s.toList then 6 else if (nm 7).toList == s.toList then 7 else if (nm 8).toList == s.toList then 8 else if (nm 9).toList == s.toList then 9 else if (nm 10).toList == s.toList then 10 else 11

theorem eleven {op : Int} (h : 0 ≤ op) (h' : op < 11) : op = 0 ∨ op = 1 ∨ op = 2 ∨ op = 3 ∨ op = 4 ∨ op = 5 ∨ op = 6 ∨ op = 7 ∨ op = 8 ∨ op = 9 ∨ op = 10 := by omega
theorem ofN_nm (op : Int) (h : 0 ≤ op) (h' : op < 11) : ofN (nm op.toNat) = op := by
  rcases eleven h h' with rfl | rfl | rfl | rfl | rfl | rfl | rfl | rfl | rfl | rfl | rfl <;> simp only [ofN, ByteArray.toList_eq] <;> decide
theorem ofN_empty : ofN ⟨#[]⟩ = 11 := by simp only [ofN, ByteArray.toList_eq]; decide
theorem ofN_range (s : ByteArray) : 0 ≤ ofN s ∧ ofN s ≤ 11 := by
  unfold ofN
  repeat' split
  all_goals omega
/-- What the program's Of tells. -/
def ofRes (s : ByteArray) : Value := .tuple #[.int .i64 (if ofN s < 11 then ofN s else 0), .bool (decide (ofN s < 11))]
/-- What the document's Of tells. -/
def rofRes (s : ByteArray) : Value := .int .i64 (if ofN s < 11 then ofN s else -1)
theorem gsize : (Tryd.prog.info? 47).map (·.size) = some gnames.length := by kernel_rfl
theorem ix0 : ∀ w, (Instr.index 47 (.agg gnames.toArray) (.int .i64 0)).run Tryd.prog w = .ok (.string (nm 0)) w := fun _ => by kernel_rfl
theorem ix1 : ∀ w, (Instr.index 47 (.agg gnames.toArray) (.int .i64 1)).run Tryd.prog w = .ok (.string (nm 1)) w := fun _ => by kernel_rfl
theorem ix2 : ∀ w, (Instr.index 47 (.agg gnames.toArray) (.int .i64 2)).run Tryd.prog w = .ok (.string (nm 2)) w := fun _ => by kernel_rfl
theorem ix3 : ∀ w, (Instr.index 47 (.agg gnames.toArray) (.int .i64 3)).run Tryd.prog w = .ok (.string (nm 3)) w := fun _ => by kernel_rfl
theorem ix4 : ∀ w, (Instr.index 47 (.agg gnames.toArray) (.int .i64 4)).run Tryd.prog w = .ok (.string (nm 4)) w := fun _ => by kernel_rfl
theorem ix5 : ∀ w, (Instr.index 47 (.agg gnames.toArray) (.int .i64 5)).run Tryd.prog w = .ok (.string (nm 5)) w := fun _ => by kernel_rfl
theorem ix6 : ∀ w, (Instr.index 47 (.agg gnames.toArray) (.int .i64 6)).run Tryd.prog w = .ok (.string (nm 6)) w := fun _ => by kernel_rfl
theorem ix7 : ∀ w, (Instr.index 47 (.agg gnames.toArray) (.int .i64 7)).run Tryd.prog w = .ok (.string (nm 7)) w := fun _ => by kernel_rfl
theorem ix8 : ∀ w, (Instr.index 47 (.agg gnames.toArray) (.int .i64 8)).run Tryd.prog w = .ok (.string (nm 8)) w := fun _ => by kernel_rfl
theorem ix9 : ∀ w, (Instr.index 47 (.agg gnames.toArray) (.int .i64 9)).run Tryd.prog w = .ok (.string (nm 9)) w := fun _ => by kernel_rfl
theorem ix10 : ∀ w, (Instr.index 47 (.agg gnames.toArray) (.int .i64 10)).run Tryd.prog w = .ok (.string (nm 10)) w := fun _ => by kernel_rfl

set_option maxHeartbeats 2000000 in
theorem of_any (s : ByteArray) (w : World) (hs : RowAt 0 gnames w) :
    Calls Tryd.prog 19 #[.string s] w fun e w' => e = .returned (ofRes s) ∧ w = w' := by
  have i0 := ix0
  have i1 := ix1
  have i2 := ix2
  have i3 := ix3
  have i4 := ix4
  have i5 := ix5
  have i6 := ix6
  have i7 := ix7
  have i8 := ix8
  have i9 := ix9
  have i10 := ix10
  go_enter Tryd.func19, Tryd.ntmps19
  go_wp2_with (refine wpList_load_cells rfl 47 _ rfl 0 rfl gnames _ hs Tryd.underlying47 rfl gsize ?_)
  refine wp_loop_rounds 12 ?_
  repeat (any_goals (rw [rounds_succ]; go_wp2_with fail))
  all_goals go_returns
  all_goals refine ⟨?_, rfl⟩
  all_goals simp [ofRes, ofN, *]

theorem names_any (w : World) :
    Calls Tryd.prog 18 #[] w fun e w' => e = .returned (.slice (some ⟨w.heap.size, 0, none⟩) 11 11) ∧ w.alloc (.cells #[.string (nm 0), .string (nm 1), .string (nm 2), .string (nm 3), .string (nm 4), .string (nm 5), .string (nm 6), .string (nm 7), .string (nm 8), .string (nm 9), .string (nm 10)] 9) = w' := by
  go_enter Tryd.func18, Tryd.ntmps18
  go_wp2
  go_returns
  exact ⟨rfl, rfl⟩

set_option maxHeartbeats 2000000 in
theorem rof_any (s : ByteArray) (w : World) :
    Calls Tryd.prog 20 #[.string s] w fun e w' => e = .returned (rofRes s) ∧ Below w.heap.size w w' := by
  go_enter Tryd.func20, Tryd.ntmps20
  go_wp2_with fail
  refine (names_any _).mono ?_
  rintro e w1 ⟨rfl, rfl⟩
  go_wp2_with fail
  refine wp_loop_rounds 12 ?_
  rw [rounds_succ]
  go_wp2_with fail
  repeat (any_goals (rw [rounds_succ]; go_wp2_with fail))
  all_goals go_returns
  all_goals refine ⟨?_, by (repeat' (first | with_reducible exact Below.refl _ _ | with_reducible assumption | with_reducible refine q_alloc ?_ _ | with_reducible refine q_drew ?_ | with_reducible refine q_drewN _ ?_ | with_reducible refine q_setCell ?_ ?_ _ | (left; simp; done) | (right; simp; done) | (right; dsimp only; omega) | (left; dsimp only; omega)))⟩
  all_goals simp [rofRes, ofN, *]

theorem check_in (op : Int) (w : World) (h : 0 ≤ op) (h' : op < 11) :
    Calls Tryd.prog 17 #[.int .i64 op] w fun e w' => e = .returned (i6 0) ∧ w = w' := by
  go_enter Tryd.func17, Tryd.ntmps17
  go_wp2_with fail
  go_returns
  exact ⟨by first | rfl | (simp; done), rfl⟩
theorem check_out (op : Int) (w : World) (h : op < 0 ∨ 11 ≤ op) :
    Calls Tryd.prog 17 #[.int .i64 op] w fun e w' => e = .returned (i6 10) ∧ w = w' := by
  by_cases h0 : op < 0
  · clear h
    go_enter Tryd.func17, Tryd.ntmps17
    go_wp2_with fail
    go_returns
    exact ⟨by first | rfl | (simp; done), rfl⟩
  · have h1 : (10 : Int) < op := by omega
    clear h
    go_enter Tryd.func17, Tryd.ntmps17
    go_wp2_with fail
    go_returns
    exact ⟨by first | rfl | (simp; done), rfl⟩
theorem name_in (op : Int) (w : World) (hs : RowAt 0 gnames w) (h : 0 ≤ op) (h' : op < 11) :
    Calls Tryd.prog 16 #[.int .i64 op] w fun e w' => e = .returned (.string (nm op.toNat)) ∧ w = w' := by
  have hc : ∀ i, i < 11 → w.cell? ⟨0, i, none⟩ = some (.string (nm i)) := by
    intro i hi
    have hi' : i = 0 ∨ i = 1 ∨ i = 2 ∨ i = 3 ∨ i = 4 ∨ i = 5 ∨ i = 6 ∨ i = 7 ∨ i = 8 ∨ i = 9 ∨ i = 10 := by omega
    rcases hi' with rfl | rfl | rfl | rfl | rfl | rfl | rfl | rfl | rfl | rfl | rfl <;> exact hs.at_ _ _ rfl
  obtain ⟨n, rfl⟩ := Int.eq_ofNat_of_zero_le h
  have c1 := hc n (by omega)
  clear hs hc
  go_enter Tryd.func16, Tryd.ntmps16
  go_wp2_with fail
  refine (check_in n _ (by omega) h').mono ?_
  rintro e w1 ⟨rfl, rfl⟩
  go_wp2
  go_returns
  exact ⟨by first | rfl | (simp; done), rfl⟩
theorem name_out (op : Int) (w : World) (h : op < 0 ∨ 11 ≤ op) :
    Calls Tryd.prog 16 #[.int .i64 op] w fun e w' => e = .returned (.string ⟨#[]⟩) ∧ w = w' := by
  go_enter Tryd.func16, Tryd.ntmps16
  go_wp2_with fail
  refine (check_out op _ h).mono ?_
  rintro e w1 ⟨rfl, rfl⟩
  go_wp2_with fail
  go_returns
  exact ⟨by first | rfl | (simp; done), rfl⟩
theorem names_cell (n : Nat) (h : n < 11) : ∀ W : World, (W.alloc (.cells #[.string (nm 0), .string (nm 1), .string (nm 2), .string (nm 3), .string (nm 4), .string (nm 5), .string (nm 6), .string (nm 7), .string (nm 8), .string (nm 9), .string (nm 10)] 9)).cell? ⟨W.heap.size, n, none⟩ = some (.string (nm n)) := by
  intro W
  have hi' : n = 0 ∨ n = 1 ∨ n = 2 ∨ n = 3 ∨ n = 4 ∨ n = 5 ∨ n = 6 ∨ n = 7 ∨ n = 8 ∨ n = 9 ∨ n = 10 := by omega
  rcases hi' with rfl | rfl | rfl | rfl | rfl | rfl | rfl | rfl | rfl | rfl | rfl <;> exact cell_new rfl

set_option maxHeartbeats 2000000 in
theorem lnames_in (op : Int) (s : ByteArray) (w : World) (hs : RowAt 1 noneCells w) (hn : RowAt 0 gnames w) (h : 0 ≤ op) (h' : op < 11) :
    Calls Tryd.prog 8 #[.int .i64 op, .string s] w fun e w' => e = .returned (.bool true) ∧ Below w.heap.size w w' := by
  have h1 : ofRes (nm op.toNat) = .tuple #[.int .i64 op, .bool true] := by
    unfold ofRes; rw [ofN_nm op h h', if_pos h', decide_eq_true h']
  have H1 := Lib.hid h1
  have hrange := ofN_range s
  obtain ⟨n, rfl⟩ := Int.eq_ofNat_of_zero_le h
  have HC := names_cell n (by omega)
  have HS := Lib.hid hs
  have HN := Lib.hid hn
  clear h1 hs hn
  by_cases hlen : 300 < s.size
  · go_enter Tryd.func8, Tryd.ntmps8
    go_wp2_with fail
    refine (gawake_any _ HS.out HN.out).mono ?_
    rintro e w1 ⟨rfl, hq⟩
    go_wp2_with fail
    go_returns
    exact ⟨rfl, hq⟩
  · rcases Int.lt_or_le (ofN s) 11 with hx | hx
    all_goals
      first
        | have e2 : ofRes s = .tuple #[.int .i64 (ofN s), .bool true] := by (unfold ofRes; rw [if_pos hx, decide_eq_true hx])
        | have e2 : ofRes s = .tuple #[.int .i64 0, .bool false] := by (unfold ofRes; rw [if_neg (by omega), decide_eq_false (by omega)])
      first
        | have e3 : rofRes s = .int .i64 (ofN s) := by (unfold rofRes; rw [if_pos hx])
        | have e3 : rofRes s = .int .i64 (-1) := by (unfold rofRes; rw [if_neg (by omega)])
      have E2 := Lib.hid e2
      have E3 := Lib.hid e3
      clear e2 e3
      go_enter Tryd.func8, Tryd.ntmps8
      go_wp2_with fail
      refine (gawake_any _ HS.out HN.out).mono ?_
      rintro e w1 ⟨rfl, hq⟩
      go_wp2_with fail
      refine (name_in n _ (HN.out.below hq) (by omega) (by omega)).mono ?_
      rintro e w2 ⟨rfl, rfl⟩
      go_wp2_with fail
      refine (check_in n _ (by omega) (by omega)).mono ?_
      rintro e w2 ⟨rfl, rfl⟩
      go_wp2_with fail
      refine (names_any _).mono ?_
      rintro e w2 ⟨rfl, rfl⟩
      go_wp2_with fail
      refine (of_any s _ ((HN.out.below hq).alloc _)).mono ?_
      rintro e w2 ⟨rfl, rfl⟩
      rw [E2.out]
      go_wp2_with fail
      refine (rof_any s _).mono ?_
      rintro e w2 ⟨rfl, hq2⟩
      rw [E3.out]
      have hq3 := q_step (q_alloc hq _) hq2
      clear hq hq2
      go_wp2_with fail
      refine (of_any _ _ (HN.out.below hq3)).mono ?_
      rintro e w3 ⟨rfl, rfl⟩
      rw [show ofRes (nm n) = .tuple #[.int .i64 n, .bool true] from H1.out]
      go_wp2_with fail
      go_returns
      exact ⟨by first | rfl | (simp; done), hq3⟩

set_option maxHeartbeats 2000000 in
theorem lnames_neg (op : Int) (s : ByteArray) (w : World) (hs : RowAt 1 noneCells w) (hn : RowAt 0 gnames w) (h : op < 0) :
    Calls Tryd.prog 8 #[.int .i64 op, .string s] w fun e w' => e = .returned (.bool true) ∧ Below w.heap.size w w' := by
  have h1 : ofRes ⟨#[]⟩ = .tuple #[.int .i64 0, .bool false] := by
    unfold ofRes; rw [ofN_empty]; rfl
  have H1 := Lib.hid h1
  have hrange := ofN_range s
  have HS := Lib.hid hs
  have HN := Lib.hid hn
  clear h1 hs hn
  by_cases hlen : 300 < s.size
  · go_enter Tryd.func8, Tryd.ntmps8
    go_wp2_with fail
    refine (gawake_any _ HS.out HN.out).mono ?_
    rintro e w1 ⟨rfl, hq⟩
    go_wp2_with fail
    go_returns
    exact ⟨rfl, hq⟩
  · rcases Int.lt_or_le (ofN s) 11 with hx | hx
    all_goals
      first
        | have e2 : ofRes s = .tuple #[.int .i64 (ofN s), .bool true] := by (unfold ofRes; rw [if_pos hx, decide_eq_true hx])
        | have e2 : ofRes s = .tuple #[.int .i64 0, .bool false] := by (unfold ofRes; rw [if_neg (by omega), decide_eq_false (by omega)])
      first
        | have e3 : rofRes s = .int .i64 (ofN s) := by (unfold rofRes; rw [if_pos hx])
        | have e3 : rofRes s = .int .i64 (-1) := by (unfold rofRes; rw [if_neg (by omega)])
      have E2 := Lib.hid e2
      have E3 := Lib.hid e3
      clear e2 e3
      go_enter Tryd.func8, Tryd.ntmps8
      go_wp2_with fail
      refine (gawake_any _ HS.out HN.out).mono ?_
      rintro e w1 ⟨rfl, hq⟩
      go_wp2_with fail
      refine (name_out op _ (by omega)).mono ?_
      rintro e w2 ⟨rfl, rfl⟩
      go_wp2_with fail
      refine (check_out op _ (by omega)).mono ?_
      rintro e w2 ⟨rfl, rfl⟩
      go_wp2_with fail
      refine (of_any s _ (HN.out.below hq)).mono ?_
      rintro e w2 ⟨rfl, rfl⟩
      rw [E2.out]
      go_wp2_with fail
      refine (rof_any s _).mono ?_
      rintro e w2 ⟨rfl, hq2⟩
      rw [E3.out]
      have hq3 := q_step hq hq2
      clear hq hq2
      go_wp2_with fail
      refine (of_any _ _ (HN.out.below hq3)).mono ?_
      rintro e w3 ⟨rfl, rfl⟩
      rw [H1.out]
      go_wp2_with fail
      go_returns
      exact ⟨by first | rfl | (simp; done), hq3⟩

set_option maxHeartbeats 2000000 in
theorem lnames_big (op : Int) (s : ByteArray) (w : World) (hs : RowAt 1 noneCells w) (hn : RowAt 0 gnames w) (h : 10 < op) (h' : 0 ≤ op) :
    Calls Tryd.prog 8 #[.int .i64 op, .string s] w fun e w' => e = .returned (.bool true) ∧ Below w.heap.size w w' := by
  have h1 : ofRes ⟨#[]⟩ = .tuple #[.int .i64 0, .bool false] := by
    unfold ofRes; rw [ofN_empty]; rfl
  have H1 := Lib.hid h1
  have hrange := ofN_range s
  have HS := Lib.hid hs
  have HN := Lib.hid hn
  clear h1 hs hn
  by_cases hlen : 300 < s.size
  · go_enter Tryd.func8, Tryd.ntmps8
    go_wp2_with fail
    refine (gawake_any _ HS.out HN.out).mono ?_
    rintro e w1 ⟨rfl, hq⟩
    go_wp2_with fail
    go_returns
    exact ⟨rfl, hq⟩
  · rcases Int.lt_or_le (ofN s) 11 with hx | hx
    all_goals
      first
        | have e2 : ofRes s = .tuple #[.int .i64 (ofN s), .bool true] := by (unfold ofRes; rw [if_pos hx, decide_eq_true hx])
        | have e2 : ofRes s = .tuple #[.int .i64 0, .bool false] := by (unfold ofRes; rw [if_neg (by omega), decide_eq_false (by omega)])
      first
        | have e3 : rofRes s = .int .i64 (ofN s) := by (unfold rofRes; rw [if_pos hx])
        | have e3 : rofRes s = .int .i64 (-1) := by (unfold rofRes; rw [if_neg (by omega)])
      have E2 := Lib.hid e2
      have E3 := Lib.hid e3
      clear e2 e3
      go_enter Tryd.func8, Tryd.ntmps8
      go_wp2_with fail
      refine (gawake_any _ HS.out HN.out).mono ?_
      rintro e w1 ⟨rfl, hq⟩
      go_wp2_with fail
      refine (name_out op _ (by omega)).mono ?_
      rintro e w2 ⟨rfl, rfl⟩
      go_wp2_with fail
      refine (check_out op _ (by omega)).mono ?_
      rintro e w2 ⟨rfl, rfl⟩
      go_wp2_with fail
      refine (of_any s _ (HN.out.below hq)).mono ?_
      rintro e w2 ⟨rfl, rfl⟩
      rw [E2.out]
      go_wp2_with fail
      refine (rof_any s _).mono ?_
      rintro e w2 ⟨rfl, hq2⟩
      rw [E3.out]
      have hq3 := q_step hq hq2
      clear hq hq2
      go_wp2_with fail
      refine (of_any _ _ (HN.out.below hq3)).mono ?_
      rintro e w3 ⟨rfl, rfl⟩
      rw [H1.out]
      go_wp2_with fail
      go_returns
      exact ⟨by first | rfl | (simp; done), hq3⟩

theorem lnames_any (op : Int) (s : ByteArray) (w : World) (hs : RowAt 1 noneCells w) (hn : RowAt 0 gnames w) :
    Calls Tryd.prog 8 #[.int .i64 op, .string s] w fun e w' => e = .returned (.bool true) ∧ Below w.heap.size w w' := by
  by_cases h : 0 ≤ op ∧ op < 11
  · exact lnames_in op s w hs hn h.1 h.2
  · by_cases h0 : op < 0
    · exact lnames_neg op s w hs hn h0
    · exact lnames_big op s w hs hn (by omega) (by omega)
end Go.Proofs.YtamcgdepipebeaaDoor
