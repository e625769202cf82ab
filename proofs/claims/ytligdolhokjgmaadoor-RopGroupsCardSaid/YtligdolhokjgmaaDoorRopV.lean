/- The sixteen functions, bit by bit: nothing of the program. -/
import Derived.Test.YtligdolhokjgmaaDoorRop
namespace Go.Proofs.YtligdolhokjgmaaDoor
theorem mixV_get (op : Nat) (s d p : BitVec 8) (i : Nat) (hi : i < 8) : (mixV op s d p)[i] = if p[i] then fb op s[i] d[i] else d[i] := by
  unfold mixV fb
  rcases Bool.eq_false_or_eq_true (op.testBit 0) with h0 | h0 <;> rcases Bool.eq_false_or_eq_true (op.testBit 1) with h1 | h1 <;> rcases Bool.eq_false_or_eq_true (op.testBit 2) with h2 | h2 <;> rcases Bool.eq_false_or_eq_true (op.testBit 3) with h3 | h3 <;>
    simp only [h0, h1, h2, h3, BitVec.getElem_or, BitVec.getElem_and, BitVec.getElem_not, BitVec.getElem_zero, if_true, if_false, Bool.false_eq_true, BitVec.ofNat_eq_ofNat] <;>
    cases s[i] <;> cases d[i] <;> cases p[i] <;> simp [h0, h1, h2, h3]

theorem mix_twice (op : Nat) (s d p : BitVec 8) (h : ∀ x y, fb op x (fb op x y) = y) : mixV op s (mixV op s d p) p = d := by
  ext i hi
  simp only [mixV_get]
  cases p[i] <;> simp [h]
theorem mix_once (op : Nat) (s d p : BitVec 8) (h : ∀ x y, fb op x (fb op x y) = fb op x y) : mixV op s (mixV op s d p) p = mixV op s d p := by
  ext i hi
  simp only [mixV_get]
  cases p[i] <;> simp [h]
end Go.Proofs.YtligdolhokjgmaaDoor
