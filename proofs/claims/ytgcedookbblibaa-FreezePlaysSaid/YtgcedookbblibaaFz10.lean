/- Layer 39: arguments. -/
import Derived.Test.YtgcedookbblibaaFz9
import Derived.Test.YtgcedookbblibaaFlatArg
namespace Go.Proofs.Ytgcedookbblibaa
open Go Go.RowKit Go.WideShapes Go.ChangeShapes
set_option linter.unusedSimpArgs false
set_option linter.unusedVariables false
structure Ac where
  d : Int
  a : Gr
  f : Bool
  i : In
  m : Int
instance : Inhabited In := ⟨zIn⟩
instance : Inhabited Ac := ⟨⟨0, zGr, false, zIn, 0⟩⟩
abbrev acL (x : Ac) : List Value := [.int .u8 x.d, i6 x.a.c, uw x.a.w, .bool x.a.o, i6 x.a.m, .bool x.a.au, .bool x.a.pa, i6 x.a.co, uw x.a.ti, .bool x.f, i6 x.i.k, i6 x.i.c, i6 x.i.x, i6 x.i.y, uw x.i.t, i6 x.i.n, i6 x.m]
theorem acL_len (x : Ac) : (acL x).length = 17 := rfl
theorem gr_cells {H : Type} {enc : TypeId × Value → H} {W : World} {fuel : Nat} {cs : List Value} {y : DataW H × List MemPlace} (h : DataW.trod enc Try.prog W 0 (fun _ => true) true fuel 27 cs = some y) : ∃ x : Gr, cs = grL x ∧ True := by
  have hk := kinds_trod 9 27 [.int .i64, .int .u32, .bool, .int .i64, .bool, .bool, .int .i64, .int .u32] (by kernel_rfl) fuel cs y h
  have hl : cs.length = 8 := by
    obtain ⟨_, _, _, _, hl, _, _⟩ := DataW.trod_struct Try.underlying27 h
    rw [hl]
    kernel_rfl
  obtain ⟨_, e0, n0, rfl, w0⟩ := hk 0 _ rfl
  obtain ⟨_, e1, n1, rfl, w1⟩ := hk 1 _ rfl
  obtain ⟨_, e2, n2, rfl⟩ := hk 2 _ rfl
  obtain ⟨_, e3, n3, rfl, w3⟩ := hk 3 _ rfl
  obtain ⟨_, e4, n4, rfl⟩ := hk 4 _ rfl
  obtain ⟨_, e5, n5, rfl⟩ := hk 5 _ rfl
  obtain ⟨_, e6, n6, rfl, w6⟩ := hk 6 _ rfl
  obtain ⟨_, e7, n7, rfl, w7⟩ := hk 7 _ rfl
  refine ⟨⟨n0, n1, n2, n3, n4, n5, n6, n7⟩, eq_of_cells hl (fun j hj => ?_), trivial⟩
  match j, hj with
  | 0, _ => exact e0
  | 1, _ => exact e1
  | 2, _ => exact e2
  | 3, _ => exact e3
  | 4, _ => exact e4
  | 5, _ => exact e5
  | 6, _ => exact e6
  | 7, _ => exact e7
  | n + 8, hj => exact absurd hj (Nat.not_lt.2 (Nat.le_add_left 8 n))
theorem in_cells {H : Type} {enc : TypeId × Value → H} {W : World} {fuel : Nat} {cs : List Value} {y : DataW H × List MemPlace} (h : DataW.trod enc Try.prog W 0 (fun _ => true) true fuel 29 cs = some y) : ∃ x : In, cs = inL x ∧ True := by
  have hk := kinds_trod 9 29 [.int .i64, .int .i64, .int .i64, .int .i64, .int .u32, .int .i64] (by kernel_rfl) fuel cs y h
  have hl : cs.length = 6 := by
    obtain ⟨_, _, _, _, hl, _, _⟩ := DataW.trod_struct Try.underlying29 h
    rw [hl]
    kernel_rfl
  obtain ⟨_, e0, n0, rfl, w0⟩ := hk 0 _ rfl
  obtain ⟨_, e1, n1, rfl, w1⟩ := hk 1 _ rfl
  obtain ⟨_, e2, n2, rfl, w2⟩ := hk 2 _ rfl
  obtain ⟨_, e3, n3, rfl, w3⟩ := hk 3 _ rfl
  obtain ⟨_, e4, n4, rfl, w4⟩ := hk 4 _ rfl
  obtain ⟨_, e5, n5, rfl, w5⟩ := hk 5 _ rfl
  refine ⟨⟨n0, n1, n2, n3, n4, n5⟩, eq_of_cells hl (fun j hj => ?_), trivial⟩
  match j, hj with
  | 0, _ => exact e0
  | 1, _ => exact e1
  | 2, _ => exact e2
  | 3, _ => exact e3
  | 4, _ => exact e4
  | 5, _ => exact e5
  | n + 6, hj => exact absurd hj (Nat.not_lt.2 (Nat.le_add_left 6 n))
theorem ac_cells {H : Type} {enc : TypeId × Value → H} {W : World} {fuel : Nat} {cs : List Value} {y : DataW H × List MemPlace} (h : DataW.trod enc Try.prog W 0 (fun _ => true) true fuel 37 cs = some y) : ∃ x : Ac, cs = acL x ∧ 0 ≤ x.d ∧ x.d ≤ 255 := by
  have hk := kinds_trod 9 37 [.int .u8, .int .i64, .int .u32, .bool, .int .i64, .bool, .bool, .int .i64, .int .u32, .bool, .int .i64, .int .i64, .int .i64, .int .i64, .int .u32, .int .i64, .int .i64] (by kernel_rfl) fuel cs y h
  have hl : cs.length = 17 := by
    obtain ⟨_, _, _, _, hl, _, _⟩ := DataW.trod_struct Try.underlying37 h
    rw [hl]
    kernel_rfl
  obtain ⟨_, e0, n0, rfl, w0⟩ := hk 0 _ rfl
  obtain ⟨_, e1, n1, rfl, w1⟩ := hk 1 _ rfl
  obtain ⟨_, e2, n2, rfl, w2⟩ := hk 2 _ rfl
  obtain ⟨_, e3, n3, rfl⟩ := hk 3 _ rfl
  obtain ⟨_, e4, n4, rfl, w4⟩ := hk 4 _ rfl
  obtain ⟨_, e5, n5, rfl⟩ := hk 5 _ rfl
  obtain ⟨_, e6, n6, rfl⟩ := hk 6 _ rfl
  obtain ⟨_, e7, n7, rfl, w7⟩ := hk 7 _ rfl
  obtain ⟨_, e8, n8, rfl, w8⟩ := hk 8 _ rfl
  obtain ⟨_, e9, n9, rfl⟩ := hk 9 _ rfl
  obtain ⟨_, e10, n10, rfl, w10⟩ := hk 10 _ rfl
  obtain ⟨_, e11, n11, rfl, w11⟩ := hk 11 _ rfl
  obtain ⟨_, e12, n12, rfl, w12⟩ := hk 12 _ rfl
  obtain ⟨_, e13, n13, rfl, w13⟩ := hk 13 _ rfl
  obtain ⟨_, e14, n14, rfl, w14⟩ := hk 14 _ rfl
  obtain ⟨_, e15, n15, rfl, w15⟩ := hk 15 _ rfl
  obtain ⟨_, e16, n16, rfl, w16⟩ := hk 16 _ rfl
  refine ⟨⟨n0, ⟨n1, n2, n3, n4, n5, n6, n7, n8⟩, n9, ⟨n10, n11, n12, n13, n14, n15⟩, n16⟩, eq_of_cells hl (fun j hj => ?_), bounds_u8 w0⟩
  match j, hj with
  | 0, _ => exact e0
  | 1, _ => exact e1
  | 2, _ => exact e2
  | 3, _ => exact e3
  | 4, _ => exact e4
  | 5, _ => exact e5
  | 6, _ => exact e6
  | 7, _ => exact e7
  | 8, _ => exact e8
  | 9, _ => exact e9
  | 10, _ => exact e10
  | 11, _ => exact e11
  | 12, _ => exact e12
  | 13, _ => exact e13
  | 14, _ => exact e14
  | 15, _ => exact e15
  | 16, _ => exact e16
  | n + 17, hj => exact absurd hj (Nat.not_lt.2 (Nat.le_add_left 17 n))
end Go.Proofs.Ytgcedookbblibaa
