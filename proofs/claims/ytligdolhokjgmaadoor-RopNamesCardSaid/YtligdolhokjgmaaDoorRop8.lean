import Derived.Test.YtligdolhokjgmaaDoorRop7
namespace Go.Proofs.YtligdolhokjgmaaDoor
open Go Go.RowKit

theorem ofN_range (s : ByteArray) : 0 ≤ ofN s ∧ ofN s ≤ 16 := by
  unfold ofN
  repeat' split
  all_goals omega

theorem names_cell (n : Nat) (h : n < 16) : ∀ W : World, (W.alloc (.cells #[.string (nm 0), .string (nm 1), .string (nm 2), .string (nm 3), .string (nm 4), .string (nm 5), .string (nm 6), .string (nm 7), .string (nm 8), .string (nm 9), .string (nm 10), .string (nm 11), .string (nm 12), .string (nm 13), .string (nm 14), .string (nm 15)] 9)).cell? ⟨W.heap.size, n, none⟩ = some (.string (nm n)) := by
  intro W
  have hi' : n = 0 ∨ n = 1 ∨ n = 2 ∨ n = 3 ∨ n = 4 ∨ n = 5 ∨ n = 6 ∨ n = 7 ∨ n = 8 ∨ n = 9 ∨ n = 10 ∨ n = 11 ∨ n = 12 ∨ n = 13 ∨ n = 14 ∨ n = 15 := by omega
  rcases hi' with rfl | rfl | rfl | rfl | rfl | rfl | rfl | rfl | rfl | rfl | rfl | rfl | rfl | rfl | rfl | rfl <;> (unfold World.cell?; simp only [heap_alloc_new]; rfl)

set_option maxHeartbeats 1000000 in
theorem lnames_in (op : Int) (s : ByteArray) (w : World) (hs : RowAt 0 nameCells w) (h : 0 ≤ op) (h' : op < 16) :
    Calls Tryd.prog 4 #[.int .i64 op, .string s] w fun e w' => e = .returned (.bool true) ∧ Below w.heap.size w w' := by
  have h1 : ofRes (nm op.toNat) = .tuple #[.int .i64 op, .bool true] := by
    unfold ofRes; rw [ofN_nm op h h', if_pos h', decide_eq_true h']
  have H1 := Lib.hid h1
  have hrange := ofN_range s
  obtain ⟨n, rfl⟩ := Int.eq_ofNat_of_zero_le h
  have HC := names_cell n (by omega)
  have HS := Lib.hid hs
  clear h1 hs
  by_cases hlen : 300 < s.size
  · go_enter Tryd.func4, Tryd.ntmps4
    go_wp2_with fail
    refine (awake_any _ HS.out).mono ?_
    rintro e w1 ⟨rfl, hq⟩
    go_wp2_with fail
    go_returns
    exact ⟨rfl, hq⟩
  · rcases Int.lt_or_le (ofN s) 16 with hx | hx
    all_goals
      first
        | have e2 : ofRes s = .tuple #[.int .i64 (ofN s), .bool true] := by (unfold ofRes; rw [if_pos hx, decide_eq_true hx])
        | have e2 : ofRes s = .tuple #[.int .i64 0, .bool false] := by (unfold ofRes; rw [if_neg (by omega), decide_eq_false (by omega)])
      first
        | have e3 : rofRes s = .int .i64 (ofN s) := by (unfold rofRes; rw [if_pos hx])
        | have e3 : rofRes s = .int .i64 (-1) := by (unfold rofRes; rw [if_neg (by omega)])
      have E2 := Lib.hid e2
      have E3 := Lib.hid e3
      clear e2 e3
      go_enter Tryd.func4, Tryd.ntmps4
      go_wp2_with fail
      refine (awake_any _ HS.out).mono ?_
      rintro e w1 ⟨rfl, hq⟩
      go_wp2_with fail
      refine (name_in n _ (HS.out.below hq) (by omega) (by omega)).mono ?_
      rintro e w2 ⟨rfl, rfl⟩
      go_wp2_with fail
      refine (is_any n _ (by omega) (by omega)).mono ?_
      rintro e w2 ⟨rfl, rfl⟩
      go_wp2_with fail
      refine (is_any n _ (by omega) (by omega)).mono ?_
      rintro e w2 ⟨rfl, rfl⟩
      go_wp2_with fail
      refine (names_any _).mono ?_
      rintro e w2 ⟨rfl, rfl⟩
      go_wp2_with fail
      refine (of_any s _ ((HS.out.below hq).alloc _)).mono ?_
      rintro e w2 ⟨rfl, rfl⟩
      rw [E2.out]
      go_wp2_with fail
      refine (rof_any s _).mono ?_
      rintro e w2 ⟨rfl, hq2⟩
      rw [E3.out]
      have hq3 := q_step (q_alloc hq _) hq2
      clear hq hq2
      go_wp2_with fail
      refine (of_any _ _ (HS.out.below hq3)).mono ?_
      rintro e w3 ⟨rfl, rfl⟩
      rw [show ofRes (nm n) = .tuple #[.int .i64 n, .bool true] from H1.out]
      go_wp2_with fail
      refine (is_any n _ (by omega) (by omega)).mono ?_
      rintro e w3 ⟨rfl, rfl⟩
      go_wp2_with fail
      go_returns
      exact ⟨rfl, hq3⟩
set_option maxHeartbeats 1000000 in
theorem lnames_out (op : Int) (s : ByteArray) (w : World) (hs : RowAt 0 nameCells w) (h : op < 0 ∨ 16 ≤ op) :
    Calls Tryd.prog 4 #[.int .i64 op, .string s] w fun e w' => e = .returned (.bool true) ∧ Below w.heap.size w w' := by
  have h1 : ofRes ⟨#[]⟩ = .tuple #[.int .i64 0, .bool false] := by
    unfold ofRes; rw [ofN_empty]; rfl
  have H1 := Lib.hid h1
  have hrange := ofN_range s
  have HS := Lib.hid hs
  clear h1 hs
  by_cases hlen : 300 < s.size
  · go_enter Tryd.func4, Tryd.ntmps4
    go_wp2_with fail
    refine (awake_any _ HS.out).mono ?_
    rintro e w1 ⟨rfl, hq⟩
    go_wp2_with fail
    go_returns
    exact ⟨rfl, hq⟩
  · rcases Int.lt_or_le (ofN s) 16 with hx | hx
    all_goals
      first
        | have e2 : ofRes s = .tuple #[.int .i64 (ofN s), .bool true] := by (unfold ofRes; rw [if_pos hx, decide_eq_true hx])
        | have e2 : ofRes s = .tuple #[.int .i64 0, .bool false] := by (unfold ofRes; rw [if_neg (by omega), decide_eq_false (by omega)])
      first
        | have e3 : rofRes s = .int .i64 (ofN s) := by (unfold rofRes; rw [if_pos hx])
        | have e3 : rofRes s = .int .i64 (-1) := by (unfold rofRes; rw [if_neg (by omega)])
      have E2 := Lib.hid e2
      have E3 := Lib.hid e3
      clear e2 e3
      go_enter Tryd.func4, Tryd.ntmps4
      go_wp2_with fail
      refine (awake_any _ HS.out).mono ?_
      rintro e w1 ⟨rfl, hq⟩
      go_wp2_with fail
      refine (name_out op _ h).mono ?_
      rintro e w2 ⟨rfl, rfl⟩
      go_wp2_with fail
      refine (is_out op _ h).mono ?_
      rintro e w2 ⟨rfl, rfl⟩
      go_wp2_with fail
      refine (is_out op _ h).mono ?_
      rintro e w2 ⟨rfl, rfl⟩
      go_wp2_with fail
      refine (of_any s _ (HS.out.below hq)).mono ?_
      rintro e w2 ⟨rfl, rfl⟩
      rw [E2.out]
      go_wp2_with fail
      refine (rof_any s _).mono ?_
      rintro e w2 ⟨rfl, hq2⟩
      rw [E3.out]
      have hq3 := q_step hq hq2
      clear hq hq2
      go_wp2_with fail
      refine (of_any _ _ (HS.out.below hq3)).mono ?_
      rintro e w3 ⟨rfl, rfl⟩
      rw [H1.out]
      go_wp2_with fail
      refine (is_out op _ h).mono ?_
      rintro e w3 ⟨rfl, rfl⟩
      go_wp2_with fail
      go_returns
      exact ⟨rfl, hq3⟩

theorem lnames_any (op : Int) (s : ByteArray) (w : World) (hs : RowAt 0 nameCells w) :
    Calls Tryd.prog 4 #[.int .i64 op, .string s] w fun e w' => e = .returned (.bool true) ∧ Below w.heap.size w w' := by
  by_cases h : 0 ≤ op ∧ op < 16
  · exact lnames_in op s w hs h.1 h.2
  · exact lnames_out op s w hs (by omega)
end Go.Proofs.YtligdolhokjgmaaDoor
