import Derived.Test.YtligdolhokjgmaaDoorRop
import Derived.Deep.QuietTactic
import Derived.BigQuiet
namespace Go.Proofs.YtligdolhokjgmaaDoor
open Go Go.RowKit

theorem clo_in (a b : Int) (s d : Bool) (aa ab : Addr) (w : World) (ha : 0 ≤ a) (ha' : a < 16) (hb : 0 ≤ b) (hb' : b < 16) (ca : w.cell? aa = some (.int .i64 a)) (cb : w.cell? ab = some (.int .i64 b)) :
    Calls Tryd.prog 25 #[.bool s, .bool d, .pointer (some ab), .pointer (some aa)] w fun e w' => e = .returned (.bool (fb b.toNat s (fb a.toNat s d))) ∧ ∃ n, w' = w.drewN n := by
  go_enter Tryd.func25, Tryd.ntmps25
  go_wp2
  go_quiet ((go_at_call 13; exact quiet_eq (bit_in _ _ _ _ (by assumption) (by assumption))))
  go_wp2
  go_returns
  exact ⟨rfl, _, rfl⟩

theorem isf (a : Int) (w : World) (ha : 0 ≤ a) :
    Calls Tryd.prog 22 #[.int .i64 a] w fun e w' => e = .returned (.bool (decide (a ≤ 15))) ∧ w = w' := by
  go_enter Tryd.func22, Tryd.ntmps22
  go_wp2
  go_returns
  exact ⟨rfl, rfl⟩

theorem place_any (s d : Bool) (w : World) :
    Calls Tryd.prog 23 #[.bool s, .bool d] w fun e w' => e = .returned (.int .i64 (if s then (if d then 1 else 2) else (if d then 4 else 8))) ∧ w = w' := by
  cases s <;> cases d
  all_goals
    go_enter Tryd.func23, Tryd.ntmps23
    go_wp2
    go_returns
    exact ⟨rfl, rfl⟩

/-- The number whose four bits these are. -/
def num4 (b0 b1 b2 b3 : Bool) : Int := (if b0 then 1 else 0) + (if b1 then 2 else 0) + (if b2 then 4 else 0) + (if b3 then 8 else 0)

set_option maxHeartbeats 1000000 in
theorem number_in (a b : Int) (aa ab : Addr) (w : World) (ha : 0 ≤ a) (ha' : a < 16) (hb : 0 ≤ b) (hb' : b < 16) (la : aa.block < w.heap.size) (lb : ab.block < w.heap.size)
    (ca : w.cell? aa = some (.int .i64 a)) (cb : w.cell? ab = some (.int .i64 b)) :
    Calls Tryd.prog 24 #[.func (.func 25) #[] #[.pointer (some ab), .pointer (some aa)]] w
      fun e w' => e = .returned (.int .i64 (num4 (fb b.toNat true (fb a.toNat true true)) (fb b.toNat true (fb a.toNat true false)) (fb b.toNat false (fb a.toNat false true)) (fb b.toNat false (fb a.toNat false false)))) ∧ Below w.heap.size w w' := by
  have HC := Lib.hid (show ∀ w', Below w.heap.size w w' → w'.cell? aa = some (.int .i64 a) ∧ w'.cell? ab = some (.int .i64 b) from fun w' h => ⟨(h.cell la).trans ca, (h.cell lb).trans cb⟩)
  clear ca cb la lb
  go_enter Tryd.func24, Tryd.ntmps24
  go_wp2
  refine wp_loop_rounds 3 ?_
  rw [rounds_succ]
  go_wp2
  refine wp_loop_rounds 3 ?_
  rw [rounds_succ]
  go_wp2_with fail
  repeat (any_goals (first
    | (go_at_call 25; refine (clo_in a b _ _ aa ab _ ha ha' hb hb' (HC.out _ (by (repeat' (first | exact Below.refl _ _ | assumption | refine q_alloc ?_ _ | refine q_drew ?_ | refine q_drewN _ ?_ | refine q_setCell ?_ ?_ _ | (left; simp; done) | (right; simp; done) | (right; omega))))).1 (HC.out _ (by (repeat' (first | exact Below.refl _ _ | assumption | refine q_alloc ?_ _ | refine q_drew ?_ | refine q_drewN _ ?_ | refine q_setCell ?_ ?_ _ | (left; simp; done) | (right; simp; done) | (right; omega))))).2).mono ?_; rintro e w1 ⟨rfl, n1, rfl⟩; go_wp2_with fail)
    | (go_at_call 23; refine (place_any _ _ _).mono ?_; rintro e w1 ⟨rfl, rfl⟩; go_wp2_with fail)
    | (rw [rounds_succ]; go_wp2_with fail)
    | (refine wp_loop_rounds 3 ?_; rw [rounds_succ]; go_wp2_with fail)))
  all_goals go_returns
  all_goals refine ⟨?_, by (repeat' (first | exact Below.refl _ _ | assumption | refine q_alloc ?_ _ | refine q_drew ?_ | refine q_drewN _ ?_ | refine q_setCell ?_ ?_ _ | (left; simp; done) | (right; simp; done) | (right; omega)))⟩
  all_goals simp only [num4, *]
  all_goals rfl
/-- The function that does a, and b behind it. -/
def thenN (a b : Int) : Int := num4 (fb b.toNat true (fb a.toNat true true)) (fb b.toNat true (fb a.toNat true false)) (fb b.toNat false (fb a.toNat false true)) (fb b.toNat false (fb a.toNat false false))

theorem then_in (a b : Int) (w : World) (ha : 0 ≤ a) (ha' : a < 16) (hb : 0 ≤ b) (hb' : b < 16) :
    Calls Tryd.prog 20 #[.int .i64 a, .int .i64 b] w fun e w' => e = .returned (.tuple #[.int .i64 (thenN a b), .bool true]) ∧ Below w.heap.size w w' := by
  have hd : decide (a ≤ 15) = true := by simp; omega
  have hd' : decide (b ≤ 15) = true := by simp; omega
  go_enter Tryd.func20, Tryd.ntmps20
  go_wp2_with (go_at_call 22; refine (isf _ _ (by assumption)).mono ?_; rintro e w' ⟨rfl, rfl⟩)
  refine (number_in a b ⟨w.heap.size, 0, none⟩ ⟨w.heap.size + 1, 0, none⟩ _ ha ha' hb hb' (by simp; omega) (by simp) (by go_cell) (by go_cell)).mono ?_
  rintro e w1 ⟨rfl, hb1⟩
  have hq := q_step (a := w) (by (repeat' (first | exact Below.refl _ _ | assumption | refine q_alloc ?_ _ | refine q_drew ?_ | refine q_drewN _ ?_ | refine q_setCell ?_ ?_ _ | (left; simp; done) | (right; simp; done) | (right; omega)))) hb1
  clear hb1
  go_wp2
  go_returns
  exact ⟨rfl, hq⟩

theorem then_out (a b : Int) (w : World) (h : (a < 0 ∨ 16 ≤ a) ∨ (b < 0 ∨ 16 ≤ b)) :
    Calls Tryd.prog 20 #[.int .i64 a, .int .i64 b] w fun e w' => e = .returned (.tuple #[.int .i64 0, .bool false]) ∧ Below w.heap.size w w' := by
  by_cases ha : a < 0
  · clear h
    go_enter Tryd.func20, Tryd.ntmps20
    go_wp2
    go_returns
    exact ⟨rfl, by (repeat' (first | exact Below.refl _ _ | assumption | refine q_alloc ?_ _ | refine q_drew ?_ | refine q_drewN _ ?_ | refine q_setCell ?_ ?_ _ | (left; simp; done) | (right; simp; done) | (right; omega)))⟩
  · by_cases ha' : a ≤ 15
    · have hd : decide (a ≤ 15) = true := by simp; omega
      have ha0 : 0 ≤ a := by omega
      have hb := h.resolve_left (by omega)
      clear h ha ha'
      rcases hb with hb | hb
      · go_enter Tryd.func20, Tryd.ntmps20
        go_wp2
        go_returns
        exact ⟨rfl, by (repeat' (first | exact Below.refl _ _ | assumption | refine q_alloc ?_ _ | refine q_drew ?_ | refine q_drewN _ ?_ | refine q_setCell ?_ ?_ _ | (left; simp; done) | (right; simp; done) | (right; omega)))⟩
      · have hd' : decide (b ≤ 15) = false := by simp; omega
        have hb0 : 0 ≤ b := by omega
        go_enter Tryd.func20, Tryd.ntmps20
        go_wp2
        go_returns
        exact ⟨rfl, by (repeat' (first | exact Below.refl _ _ | assumption | refine q_alloc ?_ _ | refine q_drew ?_ | refine q_drewN _ ?_ | refine q_setCell ?_ ?_ _ | (left; simp; done) | (right; simp; done) | (right; omega)))⟩
    · have hd : decide (a ≤ 15) = false := by simp; omega
      have ha0 : 0 ≤ a := by omega
      clear h ha ha'
      go_enter Tryd.func20, Tryd.ntmps20
      go_wp2
      go_returns
      exact ⟨rfl, by (repeat' (first | exact Below.refl _ _ | assumption | refine q_alloc ?_ _ | refine q_drew ?_ | refine q_drewN _ ?_ | refine q_setCell ?_ ?_ _ | (left; simp; done) | (right; simp; done) | (right; omega)))⟩
end Go.Proofs.YtligdolhokjgmaaDoor
