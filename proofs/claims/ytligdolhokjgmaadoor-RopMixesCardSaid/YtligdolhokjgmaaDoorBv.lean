/- Bytes as bit vectors: the walk's own words for Go's operators on a uint8, said of BitVec 8. -/
import Derived.WalkKit
namespace Go.Proofs.YtligdolhokjgmaaDoor
open Go Go.RowKit
abbrev u8v (a : BitVec 8) : Value := .int .u8 (a.toNat : Int)

theorem bv8_and (a b : BitVec 8) : bits .and .u8 (a.toNat : Int) (b.toNat : Int) = ((a &&& b).toNat : Int) := by
  rw [u8_and_nat _ _ a.isLt b.isLt, BitVec.toNat_and]
theorem bv8_or (a b : BitVec 8) : bits .or .u8 (a.toNat : Int) (b.toNat : Int) = ((a ||| b).toNat : Int) := by
  rw [u8_or_nat _ _ a.isLt b.isLt, BitVec.toNat_or]
theorem bv8_xor (a b : BitVec 8) : bits .xor .u8 (a.toNat : Int) (b.toNat : Int) = ((a ^^^ b).toNat : Int) := by
  rw [u8_xor_nat _ _ a.isLt b.isLt, BitVec.toNat_xor]
theorem bv8_andNot (a b : BitVec 8) : bits .andNot .u8 (a.toNat : Int) (b.toNat : Int) = ((a &&& ~~~b).toNat : Int) := by
  rw [u8_andNot_nat _ _ a.isLt b.isLt, BitVec.toNat_and, BitVec.toNat_not]
theorem bv8_not (a : BitVec 8) : bits .xor .u8 IntKind.u8.max (a.toNat : Int) = ((~~~a).toNat : Int) := by
  have h : IntKind.u8.max = ((255#8).toNat : Int) := by decide
  rw [h, bv8_xor]
  congr 2
theorem bv8_zero : (0 : Int) = ((0#8).toNat : Int) := by simp
theorem bv8_or0 (a : BitVec 8) : bits .or .u8 0 (a.toNat : Int) = (a.toNat : Int) := by
  rw [bv8_zero, bv8_or]; simp
theorem bv8_0and (a : BitVec 8) : bits .and .u8 0 (a.toNat : Int) = 0 := by
  rw [bv8_zero, bv8_and]; simp
theorem bv8_of (n : Int) (h : 0 ≤ n) (h' : n < 256) : ∃ a : BitVec 8, n = (a.toNat : Int) :=
  ⟨BitVec.ofNat 8 n.toNat, by simp [BitVec.toNat_ofNat]; omega⟩
theorem bv8_inj {a b : BitVec 8} : ((a.toNat : Int) = (b.toNat : Int)) ↔ a = b := by
  constructor
  · intro h; exact BitVec.eq_of_toNat_eq (by omega)
  · intro h; rw [h]
theorem bv8_beq (a b : BitVec 8) : ((a.toNat : Int) == (b.toNat : Int)) = (a == b) := by
  rw [Bool.eq_iff_iff]; simp only [beq_iff_eq]; exact bv8_inj
theorem bv8_bne (a b : BitVec 8) : ((a.toNat : Int) != (b.toNat : Int)) = (a != b) := by
  rw [bne, bv8_beq]; rfl
end Go.Proofs.YtligdolhokjgmaaDoor
