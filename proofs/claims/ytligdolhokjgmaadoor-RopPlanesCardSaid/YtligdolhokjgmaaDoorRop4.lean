import Derived.Test.YtligdolhokjgmaaDoorRop3
namespace Go.Proofs.YtligdolhokjgmaaDoor
open Go Go.RowKit

def mixA (op : Int) (s d p : BitVec 8) : BitVec 8 := if 0 ≤ op ∧ op < 16 then mixV op.toNat s d p else d

theorem mix_any (op : Int) (s d p : Int) (w : World) (a b c : BitVec 8) (ha : s = a.toNat) (hb : d = b.toNat) (hc : p = c.toNat) :
    Calls Tryd.prog 11 #[.int .i64 op, .int .u8 s, .int .u8 d, .int .u8 p] w fun e w' => e = .returned (u8v (mixA op a b c)) ∧ w = w' := by
  subst ha hb hc
  by_cases h : 0 ≤ op ∧ op < 16
  · unfold mixA; rw [if_pos h]; exact mix_in op a b c w h.1 h.2
  · unfold mixA; rw [if_neg h]; exact mix_out op a b c w (by omega)

theorem mixA_get (op : Int) (s d p : BitVec 8) (i : Nat) (hi : i < 8) : (mixA op s d p)[i] = if p[i] then (if 0 ≤ op ∧ op < 16 then fb op.toNat s[i] d[i] else d[i]) else d[i] := by
  unfold mixA
  by_cases h : 0 ≤ op ∧ op < 16
  · simp only [if_pos h, mixV_get]
  · simp only [if_neg h]; simp

theorem get255 (i : Nat) (hi : i < 8) : (255#8)[i] = true := by
  have h : 255#8 = BitVec.allOnes 8 := by decide
  simp only [h, BitVec.getElem_allOnes]

set_option maxHeartbeats 400000 in
theorem planes_any (op : Int) (s d p : BitVec 8) (w : World) (hs : RowAt 0 nameCells w) :
    Calls Tryd.prog 7 #[.int .i64 op, u8v s, u8v d, u8v p] w fun e w' => e = .returned (.bool true) ∧ Below w.heap.size w w' := by
  have e1 : mixA op s d p &&& ~~~p = d &&& ~~~p := by
    ext i hi; simp only [BitVec.getElem_and, BitVec.getElem_not, mixA_get]; cases p[i] <;> simp
  have e2 : mixA op s d 0#8 = d := by
    ext i hi; simp only [mixA_get, BitVec.getElem_zero]; simp
  have e3 : mixA op s (mixA op s d p) (~~~p) = mixA op s d 255#8 := by
    ext i hi
    have h255 := get255 i hi
    simp only [mixA_get, BitVec.getElem_not, h255]; cases p[i] <;> simp
  have e4 : mixA op s d p &&& p = mixA op s d 255#8 &&& p := by
    ext i hi
    have h255 := get255 i hi
    simp only [mixA_get, BitVec.getElem_and, h255]; cases p[i] <;> simp
  have b1 := bv8_andNot (mixA op s d p) p
  have b2 := bv8_andNot d p
  have b3 := bv8_not p
  have b4 := bv8_and (mixA op s d p) p
  have b5 := bv8_and (mixA op s d 255#8) p
  rw [e1] at b1
  rw [e4] at b4
  go_enter Tryd.func7, Tryd.ntmps7
  go_wp2_with fail
  refine (awake_any _ hs).mono ?_
  rintro e w1 ⟨rfl, hq⟩
  clear hs
  go_wp2_with fail
  refine (mix_any _ _ _ _ _ s d p rfl rfl rfl).mono ?_
  rintro e w1 ⟨rfl, rfl⟩
  go_wp2_with fail
  refine (mix_any _ _ _ _ _ s d 0#8 rfl rfl rfl).mono ?_
  rintro e w1 ⟨rfl, rfl⟩
  go_wp2_with fail
  refine (mix_any _ _ _ _ _ s d 255#8 rfl rfl rfl).mono ?_
  rintro e w1 ⟨rfl, rfl⟩
  go_wp2_with fail
  refine (mix_any _ _ _ _ _ s (mixA op s d p) (~~~p) rfl rfl (by simp)).mono ?_
  rintro e w1 ⟨rfl, rfl⟩
  go_wp2
  go_returns
  exact ⟨rfl, hq⟩

theorem thens (op : Int) (h : 0 ≤ op) (h' : op < 16) : thenN op 10 = 15 - op ∧ thenN (15 - op) 10 = op ∧ thenN 5 op = op ∧ thenN op 5 = op ∧ thenN op 3 = 3 ∧ ∀ x y, fb (15 - op).toNat x y = !fb op.toNat x y := by
  rcases sixteen h h' with rfl | rfl | rfl | rfl | rfl | rfl | rfl | rfl | rfl | rfl | rfl | rfl | rfl | rfl | rfl | rfl <;> decide

set_option maxHeartbeats 400000 in
theorem turns_in (op : Int) (s d : BitVec 8) (w : World) (hs : RowAt 0 nameCells w) (h : 0 ≤ op) (h' : op < 16) :
    Calls Tryd.prog 8 #[.int .i64 op, u8v s, u8v d] w fun e w' => e = .returned (.bool true) ∧ Below w.heap.size w w' := by
  have e1 : mixA (15 - op) s d 255#8 = ~~~(mixA op s d 255#8) := by
    ext i hi
    have h255 := get255 i hi
    simp only [mixA_get, BitVec.getElem_not, h255, (thens op h h').2.2.2.2.2, if_pos (show 0 ≤ 15 - op ∧ 15 - op < 16 by omega), if_pos (show 0 ≤ op ∧ op < 16 by omega), if_true]
  have b3 := bv8_not (mixA op s d 255#8)
  have t1 := Lib.hid (thens op h h').1
  have t2 := Lib.hid (thens op h h').2.1
  have hd : decide (15 < op) = false := by simp; omega
  have hd2 : ¬ op < 0 := by omega
  go_enter Tryd.func8, Tryd.ntmps8
  go_wp2_with fail
  refine (awake_any _ hs).mono ?_
  rintro e w1 ⟨rfl, hq⟩
  clear hs
  go_wp2_with fail
  refine (then_in op 10 _ (by omega) (by omega) (by omega) (by omega)).mono ?_
  rintro e w2 ⟨rfl, hq2⟩
  rw [t1.out]
  have hq3 := q_step hq hq2
  clear hq hq2
  go_wp2_with fail
  refine (then_in (15 - op) 10 _ (by omega) (by omega) (by omega) (by omega)).mono ?_
  rintro e w3 ⟨rfl, hq2⟩
  rw [t2.out]
  have hq := q_step hq3 hq2
  clear hq2 hq3
  go_wp2_with fail
  refine (mix_any _ _ _ _ _ s d 255#8 rfl rfl rfl).mono ?_
  rintro e w1 ⟨rfl, rfl⟩
  go_wp2_with fail
  refine (mix_any _ _ _ _ _ s d 255#8 rfl rfl rfl).mono ?_
  rintro e w1 ⟨rfl, rfl⟩
  go_wp2
  go_returns
  exact ⟨rfl, hq⟩

set_option maxHeartbeats 400000 in
theorem turns_out (op : Int) (s d : BitVec 8) (w : World) (hs : RowAt 0 nameCells w) (h : op < 0 ∨ 16 ≤ op) :
    Calls Tryd.prog 8 #[.int .i64 op, u8v s, u8v d] w fun e w' => e = .returned (.bool true) ∧ Below w.heap.size w w' := by
  have e2 : mixA op s d 255#8 = d := by unfold mixA; rw [if_neg (by omega)]
  have hd : 0 ≤ op → decide (15 < op) = true := by intro _; simp; omega
  rcases h with h | h
  all_goals
    first | (have hd2 := hd (by omega); clear hd) | clear hd
    go_enter Tryd.func8, Tryd.ntmps8
    go_wp2_with fail
    refine (awake_any _ hs).mono ?_
    rintro e w1 ⟨rfl, hq⟩
    clear hs
    go_wp2_with fail
    refine (then_out op 10 _ (by omega)).mono ?_
    rintro e w2 ⟨rfl, hq2⟩
    have hq3 := q_step hq hq2
    clear hq hq2
    go_wp2_with fail
    refine (mix_any _ _ _ _ _ s d 255#8 rfl rfl rfl).mono ?_
    rintro e w1 ⟨rfl, rfl⟩
    go_wp2
    go_returns
    exact ⟨rfl, hq3⟩
end Go.Proofs.YtligdolhokjgmaaDoor
