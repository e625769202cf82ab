import Derived.Test.YtligdolhokjgmaaDoorProg
import Derived.Test.YtligdolhokjgmaaDoorLib
import Derived.Test.YtligdolhokjgmaaDoorBv
import Derived.Outline
import Derived.Handy
import Derived.KernelRfl
import Derived.Lib.Hide
namespace Go.Proofs.YtligdolhokjgmaaDoor
open Go Go.RowKit

/-- What one of the sixteen functions does, on whole bytes. -/
def mixV (op : Nat) (s d p : BitVec 8) : BitVec 8 :=
  ((((((if op.testBit 0 then s &&& d else 0) ||| (if op.testBit 1 then s &&& ~~~d else 0)) ||| (if op.testBit 2 then d &&& ~~~s else 0)) ||| (if op.testBit 3 then ~~~(s ||| d) else 0))) &&& p) ||| (d &&& ~~~p)

theorem sixteen {n : Int} (h : 0 ≤ n) (h' : n < 16) : n = 0 ∨ n = 1 ∨ n = 2 ∨ n = 3 ∨ n = 4 ∨ n = 5 ∨ n = 6 ∨ n = 7 ∨ n = 8 ∨ n = 9 ∨ n = 10 ∨ n = 11 ∨ n = 12 ∨ n = 13 ∨ n = 14 ∨ n = 15 := by omega

set_option maxHeartbeats 2000000 in
theorem mix_in (op : Int) (s d p : BitVec 8) (w : World) (h : 0 ≤ op) (h' : op < 16) :
    Calls Tryd.prog 11 #[.int .i64 op, u8v s, u8v d, u8v p] w fun e w' => e = .returned (u8v (mixV op.toNat s d p)) ∧ w = w' := by
  rcases sixteen h h' with rfl | rfl | rfl | rfl | rfl | rfl | rfl | rfl | rfl | rfl | rfl | rfl | rfl | rfl | rfl | rfl
  all_goals
    clear h h'
    go_enter Tryd.func11, Tryd.ntmps11
    go_wp2
    go_returns
    refine ⟨?_, rfl⟩
    simp [mixV, bv8_0and, bv8_or0, bv8_and, bv8_or, bv8_andNot, bv8_not, Nat.testBit, -BitVec.toNat_and, -BitVec.toNat_or, -BitVec.toNat_not, -BitVec.toNat_xor]

theorem mix_out (op : Int) (s d p : BitVec 8) (w : World) (h : op < 0 ∨ 16 ≤ op) :
    Calls Tryd.prog 11 #[.int .i64 op, u8v s, u8v d, u8v p] w fun e w' => e = .returned (u8v d) ∧ w = w' := by
  have h1 : 0 ≤ op → decide (op ≤ 15) = false := by intro _; simp; omega
  rcases h with h | h
  · clear h1
    go_enter Tryd.func11, Tryd.ntmps11
    go_wp2
    go_returns
    exact ⟨rfl, rfl⟩
  · have h2 := h1 (by omega)
    clear h1
    go_enter Tryd.func11, Tryd.ntmps11
    go_wp2
    go_returns
    exact ⟨rfl, rfl⟩

/-- The bit that comes of two bits. -/
def fb (op : Nat) (s d : Bool) : Bool := op.testBit (if s then (if d then 0 else 1) else (if d then 2 else 3))

theorem and_bit (op : Int) (h : 0 ≤ op) (h' : op < 16) : (bits .and .i64 op 1 != 0) = op.toNat.testBit 0 ∧ (bits .and .i64 op 2 != 0) = op.toNat.testBit 1 ∧ (bits .and .i64 op 4 != 0) = op.toNat.testBit 2 ∧ (bits .and .i64 op 8 != 0) = op.toNat.testBit 3 := by
  rcases sixteen h h' with rfl | rfl | rfl | rfl | rfl | rfl | rfl | rfl | rfl | rfl | rfl | rfl | rfl | rfl | rfl | rfl <;> decide

theorem bit_in (op : Int) (s d : Bool) (w : World) (h : 0 ≤ op) (h' : op < 16) :
    Calls Tryd.prog 13 #[.int .i64 op, .bool s, .bool d] w fun e w' => e = .returned (.bool (fb op.toNat s d)) ∧ w = w' := by
  have H := Lib.hid (and_bit op h h')
  have hd : decide (op ≤ 15) = true := by simp; omega
  cases s <;> cases d
  all_goals
    go_enter Tryd.func13, Tryd.ntmps13
    go_wp2
    go_returns
    refine ⟨?_, rfl⟩
    simp [fb, ← H.out.1, ← H.out.2.1, ← H.out.2.2.1, ← H.out.2.2.2]

theorem bit_out (op : Int) (s d : Bool) (w : World) (h : op < 0 ∨ 16 ≤ op) :
    Calls Tryd.prog 13 #[.int .i64 op, .bool s, .bool d] w fun e w' => e = .returned (.bool d) ∧ w = w' := by
  have h1 : 0 ≤ op → decide (op ≤ 15) = false := by intro _; simp; omega
  rcases h with h | h
  · clear h1
    go_enter Tryd.func13, Tryd.ntmps13
    go_wp2
    go_returns
    exact ⟨rfl, rfl⟩
  · have h2 := h1 (by omega)
    clear h1
    go_enter Tryd.func13, Tryd.ntmps13
    go_wp2
    go_returns
    exact ⟨rfl, rfl⟩

theorem div_bit (op : Int) (h : 0 ≤ op) (h' : op < 16) : (op % 2 == 1) = op.toNat.testBit 0 ∧ (op / 2 % 2 == 1) = op.toNat.testBit 1 ∧ (op / 2 / 2 % 2 == 1) = op.toNat.testBit 2 ∧ (op / 2 / 2 / 2 % 2 == 1) = op.toNat.testBit 3 := by
  rcases sixteen h h' with rfl | rfl | rfl | rfl | rfl | rfl | rfl | rfl | rfl | rfl | rfl | rfl | rfl | rfl | rfl | rfl <;> decide

theorem rbit_in (op : Int) (s d : Bool) (w : World) (h : 0 ≤ op) (h' : op < 16) :
    Calls Tryd.prog 14 #[.int .i64 op, .bool s, .bool d] w fun e w' => e = .returned (.bool (fb op.toNat s d)) ∧ w = w' := by
  have hd : decide (op ≤ 15) = true := by simp; omega
  have hd' : decide (0 ≤ op) = true := by simp; omega
  cases s <;> cases d
  all_goals
    go_enter Tryd.func14, Tryd.ntmps14
    go_wp2
    go_rounds 4
    go_returns
  · exact ⟨ret_bool (div_bit op h h').2.2.2, rfl⟩
  · exact ⟨ret_bool (div_bit op h h').2.2.1, rfl⟩
  · exact ⟨ret_bool (div_bit op h h').2.1, rfl⟩
  · exact ⟨ret_bool (div_bit op h h').1, rfl⟩

theorem rbit_out (op : Int) (s d : Bool) (w : World) (h : op < 0 ∨ 16 ≤ op) :
    Calls Tryd.prog 14 #[.int .i64 op, .bool s, .bool d] w fun e w' => e = .returned (.bool d) ∧ w = w' := by
  have h1 : 0 ≤ op → decide (op ≤ 15) = false := by intro _; simp; omega
  rcases h with h | h
  · clear h1
    have hd' : decide (0 ≤ op) = false := by simp; omega
    go_enter Tryd.func14, Tryd.ntmps14
    go_wp2
    go_returns
    exact ⟨rfl, rfl⟩
  · have h2 := h1 (by omega)
    have hd' : decide (0 ≤ op) = true := by simp; omega
    clear h1
    go_enter Tryd.func14, Tryd.ntmps14
    go_wp2
    go_returns
    exact ⟨rfl, rfl⟩
end Go.Proofs.YtligdolhokjgmaaDoor
