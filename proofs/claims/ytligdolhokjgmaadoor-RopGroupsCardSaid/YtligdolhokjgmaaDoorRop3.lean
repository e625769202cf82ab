import Derived.Test.YtligdolhokjgmaaDoorRop2
import Derived.Test.YtligdolhokjgmaaDoorRopV
namespace Go.Proofs.YtligdolhokjgmaaDoor
open Go Go.RowKit

def nameCells : List Value := [.string ⟨#[99, 108, 101, 97, 114]⟩, .string ⟨#[97, 110, 100]⟩, .string ⟨#[97, 110, 100, 45, 114, 101, 118, 101, 114, 115, 101]⟩, .string ⟨#[99, 111, 112, 121]⟩, .string ⟨#[97, 110, 100, 45, 105, 110, 118, 101, 114, 116, 101, 100]⟩, .string ⟨#[110, 111, 45, 111, 112]⟩, .string ⟨#[120, 111, 114]⟩, .string ⟨#[111, 114]⟩, .string ⟨#[110, 111, 114]⟩, .string ⟨#[101, 113, 117, 105, 118]⟩, .string ⟨#[105, 110, 118, 101, 114, 116]⟩, .string ⟨#[111, 114, 45, 114, 101, 118, 101, 114, 115, 101]⟩, .string ⟨#[99, 111, 112, 121, 45, 105, 110, 118, 101, 114, 116, 101, 100]⟩, .string ⟨#[111, 114, 45, 105, 110, 118, 101, 114, 116, 101, 100]⟩, .string ⟨#[110, 97, 110, 100]⟩, .string ⟨#[115, 101, 116]⟩]

theorem then66 : thenN 6 6 = 5 := by decide
theorem then3a : thenN 3 10 = 12 := by decide

theorem name14 (w : World) (hs : RowAt 0 nameCells w) :
    Calls Tryd.prog 15 #[.int .i64 14] w fun e w' => e = .returned (.string ⟨#[110, 97, 110, 100]⟩) ∧ w = w' := by
  have h14 : w.cell? ⟨0, 14, none⟩ = some (.string ⟨#[110, 97, 110, 100]⟩) := hs.at_ 14 _ rfl
  clear hs
  go_enter Tryd.func15, Tryd.ntmps15
  go_wp2
  go_returns
  exact ⟨rfl, rfl⟩

theorem mixc (op : Int) (s d p : Int) (w : World) (a b c : BitVec 8) (h : 0 ≤ op) (h' : op < 16) (ha : s = a.toNat) (hb : d = b.toNat) (hc : p = c.toNat) :
    Calls Tryd.prog 11 #[.int .i64 op, .int .u8 s, .int .u8 d, .int .u8 p] w fun e w' => e = .returned (u8v (mixV op.toNat a b c)) ∧ w = w' := by
  subst ha hb hc
  exact mix_in op a b c w h h'

theorem awake_any (w : World) (hs : RowAt 0 nameCells w) :
    Calls Tryd.prog 10 #[] w fun e w' => e = .returned (.bool true) ∧ Below w.heap.size w w' := by
  have HS := Lib.hid hs
  clear hs
  go_enter Tryd.func10, Tryd.ntmps10
  go_wp2_with fail
  refine (then_in 6 6 _ (by omega) (by omega) (by omega) (by omega)).mono ?_
  rintro e w1 ⟨rfl, hb1⟩
  rw [then66]
  go_wp2_with fail
  refine (then_in 3 10 _ (by omega) (by omega) (by omega) (by omega)).mono ?_
  rintro e w2 ⟨rfl, hb2⟩
  rw [then3a]
  have hq := q_step (a := w) hb1 hb2
  clear hb1 hb2
  go_wp2_with fail
  refine (mixc 6 5 3 255 _ 5#8 3#8 255#8 (by omega) (by omega) (by decide) (by decide) (by decide)).mono ?_
  rintro e w1 ⟨rfl, rfl⟩
  rw [show u8v (mixV (6 : Int).toNat 5#8 3#8 255#8) = .int .u8 6 from congrArg (Value.int .u8) (by decide)]
  go_wp2_with fail
  refine (mixc 3 5 3 1 _ 5#8 3#8 1#8 (by omega) (by omega) (by decide) (by decide) (by decide)).mono ?_
  rintro e w1 ⟨rfl, rfl⟩
  rw [show u8v (mixV (3 : Int).toNat 5#8 3#8 1#8) = .int .u8 3 from congrArg (Value.int .u8) (by decide)]
  go_wp2_with fail
  refine (mixc 8 5 3 15 _ 5#8 3#8 15#8 (by omega) (by omega) (by decide) (by decide) (by decide)).mono ?_
  rintro e w1 ⟨rfl, rfl⟩
  rw [show u8v (mixV (8 : Int).toNat 5#8 3#8 15#8) = .int .u8 8 from congrArg (Value.int .u8) (by decide)]
  go_wp2_with fail
  refine (name14 _ (HS.out.below hq)).mono ?_
  rintro e w1 ⟨rfl, rfl⟩
  go_wp2
  go_returns
  exact ⟨rfl, hq⟩


theorem twice_any (s d p : BitVec 8) (w : World) (hs : RowAt 0 nameCells w) :
    Calls Tryd.prog 6 #[u8v s, u8v d, u8v p] w fun e w' => e = .returned (.bool true) ∧ Below w.heap.size w w' := by
  have e6 := mix_twice 6 s d p (by decide)
  have e10 := mix_twice 10 s d p (by decide)
  have e5 := mix_twice 5 s d p (by decide)
  have e3 := mix_once 3 s d p (by decide)
  have e0 := mix_once 0 s d p (by decide)
  have e15 := mix_once 15 s d p (by decide)
  have e12 := mix_once 12 s d p (by decide)
  have e1 := mix_once 1 s d p (by decide)
  have e7 := mix_once 7 s d p (by decide)
  go_enter Tryd.func6, Tryd.ntmps6
  go_wp2_with fail
  refine (awake_any _ hs).mono ?_
  rintro e w1 ⟨rfl, hq⟩
  clear hs
  go_wp2_with fail
  refine wp_loop_rounds 4 ?_
  repeat (any_goals (first
    | (go_at_call 11; refine (mix_in _ _ _ _ _ (by omega) (by omega)).mono ?_; rintro e w1 ⟨rfl, rfl⟩; go_wp2_with fail)
    | (rw [rounds_succ]; go_wp2_with fail)))
  refine wp_loop_rounds 7 ?_
  repeat (any_goals (first
    | (go_at_call 11; refine (mix_in _ _ _ _ _ (by omega) (by omega)).mono ?_; rintro e w1 ⟨rfl, rfl⟩; go_wp2_with fail)
    | (rw [rounds_succ]; go_wp2_with fail)))
  all_goals go_returns
  all_goals exact ⟨rfl, by (repeat' (first | exact Below.refl _ _ | assumption | refine q_alloc ?_ _ | refine q_drew ?_ | refine q_drewN _ ?_ | refine q_setCell ?_ ?_ _ | (left; simp; done) | (right; simp; done) | (right; omega)))⟩
end Go.Proofs.YtligdolhokjgmaaDoor
