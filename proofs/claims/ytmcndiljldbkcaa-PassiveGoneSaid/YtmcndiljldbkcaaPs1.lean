/- Layer 38: grabs; do two cross; is one right. -/
import Derived.Test.YtmcndiljldbkcaaProg
import Derived.Test.YtmcndiljldbkcaaLib
import Derived.Test.YtmcndiljldbkcaaLib3
import Derived.Outline
import Derived.Handy
import Derived.KernelRfl
import Derived.Lib.Hide
import Derived.Deep.QuietTactic
import Derived.BigQuiet
import Derived.OwnWalk
import Derived.Lib.SmallJoins
import Derived.Deep.Cut
import Derived.IntWalk
import Derived.Deep.RegionHeld3
namespace Go.Proofs.Ytmcndiljldbkcaa
open Go Go.RowKit
set_option linter.unusedSimpArgs false
set_option linter.unusedVariables false
abbrev i6 (n : Int) : Value := .int .i64 n
abbrev u3 (n : Int) : Value := .int .u32 n
theorem stick {w : World} {p : Addr} {v : Value} (h : w.cell? p = some v) : ∀ W, Below w.heap.size w W → W.cell? p = some v := fun _ hb => cell_below hb h
/-- A grab. -/
structure G where
  cl : Int
  wi : Int
  bu : Bool
  co : Int
  mo : Int
  ow : Bool
  ma : Int
  pt : Int
  kb : Int
def gL (g : G) : List Value := [i6 g.cl, u3 g.wi, .bool g.bu, i6 g.co, i6 g.mo, .bool g.ow, i6 g.ma, i6 g.pt, i6 g.kb]
abbrev gV (g : G) : Value := .agg #[i6 g.cl, u3 g.wi, .bool g.bu, i6 g.co, i6 g.mo, .bool g.ow, i6 g.ma, i6 g.pt, i6 g.kb]
def meetsB (a b c : Int) : Bool := decide (a = b) || decide (a = c) || decide (b = c)
def meetG (g h : G) : Bool := decide (g.wi = h.wi) && (g.bu == h.bu) && meetsB g.co h.co 0 && meetsB g.mo h.mo 32768
theorem meets_any (a b c : Int) (w : World) : Calls Try.prog 29 #[i6 a, i6 b, i6 c] w fun e w' => e = .returned (.bool (meetsB a b c)) ∧ w = w' := by
  unfold meetsB
  by_cases h1 : a = b
  · subst h1
    go_enter Try.func29, Try.ntmps29
    go_wp2_with fail
    go_returns
    exact ⟨by first | rfl | (simp; done), rfl⟩
  · have e1 : (a == b) = false := by simpa using h1
    by_cases h2 : a = c
    · subst h2
      go_enter Try.func29, Try.ntmps29
      go_wp2_with fail
      go_returns
      exact ⟨by first | rfl | (simp; done) | (simp [h1]; done), rfl⟩
    · have e2 : (a == c) = false := by simpa using h2
      by_cases h3 : b = c
      · subst h3
        go_enter Try.func29, Try.ntmps29
        go_wp2_with fail
        go_returns
        exact ⟨by first | rfl | (simp; done) | (simp [h1, h2]; done), rfl⟩
      · have e3 : (b == c) = false := by simpa using h3
        go_enter Try.func29, Try.ntmps29
        go_wp2_with fail
        go_returns
        exact ⟨by first | rfl | (simp; done) | (simp [h1, h2, h3]; done), rfl⟩
set_option maxRecDepth 100000 in
set_option maxHeartbeats 4000000 in
theorem meet_any (g h : G) (w : World) : Calls Try.prog 18 #[gV g, gV h] w fun e w' => e = .returned (.bool (meetG g h)) ∧ Below w.heap.size w w' := by
  obtain ⟨a0, a1, a2, a3, a4, a5, a6, a7, a8⟩ := g
  obtain ⟨b0, b1, b2, b3, b4, b5, b6, b7, b8⟩ := h
  unfold meetG
  dsimp only
  by_cases hw : a1 = b1
  · subst hw
    by_cases hb : a2 = b2
    · subst hb
      generalize hm : meetsB a3 b3 0 = m1
      generalize hn : meetsB a4 b4 32768 = m2
      have HM := Lib.hid hm
      have HN := Lib.hid hn
      clear hm hn
      go_enter Try.func18, Try.ntmps18
      go_wp2_with fail
      refine (meets_any _ _ _ _).mono ?_
      rintro e w1 ⟨rfl, rfl⟩
      rw [HM.out]
      cases m1
      · go_wp2_with fail
        go_returns
        exact ⟨by first | rfl | (simp; done), by (repeat' (first | with_reducible exact Below.refl _ _ | with_reducible assumption | with_reducible refine q_alloc ?_ _ | with_reducible refine q_drew ?_ | with_reducible refine q_drewN _ ?_ | with_reducible refine q_setCell ?_ ?_ _ | (left; simp; done) | (right; simp; done) | (right; dsimp only; omega) | (left; dsimp only; omega)))⟩
      · go_wp2_with fail
        refine (meets_any _ _ _ _).mono ?_
        rintro e w1 ⟨rfl, rfl⟩
        rw [HN.out]
        cases m2
        · go_wp2_with fail
          go_returns
          exact ⟨by first | rfl | (simp; done), by (repeat' (first | with_reducible exact Below.refl _ _ | with_reducible assumption | with_reducible refine q_alloc ?_ _ | with_reducible refine q_drew ?_ | with_reducible refine q_drewN _ ?_ | with_reducible refine q_setCell ?_ ?_ _ | (left; simp; done) | (right; simp; done) | (right; dsimp only; omega) | (left; dsimp only; omega)))⟩
        · go_wp2_with fail
          go_returns
          exact ⟨by first | rfl | (simp; done), by (repeat' (first | with_reducible exact Below.refl _ _ | with_reducible assumption | with_reducible refine q_alloc ?_ _ | with_reducible refine q_drew ?_ | with_reducible refine q_drewN _ ?_ | with_reducible refine q_setCell ?_ ?_ _ | (left; simp; done) | (right; simp; done) | (right; dsimp only; omega) | (left; dsimp only; omega)))⟩
    · have eb : (a2 == b2) = false := by simpa using hb
      cases a2 <;> cases b2
      · exact absurd rfl hb
      · go_enter Try.func18, Try.ntmps18
        go_wp2_with fail
        go_returns
        exact ⟨by first | rfl | (simp; done), by (repeat' (first | with_reducible exact Below.refl _ _ | with_reducible assumption | with_reducible refine q_alloc ?_ _ | with_reducible refine q_drew ?_ | with_reducible refine q_drewN _ ?_ | with_reducible refine q_setCell ?_ ?_ _ | (left; simp; done) | (right; simp; done) | (right; dsimp only; omega) | (left; dsimp only; omega)))⟩
      · go_enter Try.func18, Try.ntmps18
        go_wp2_with fail
        go_returns
        exact ⟨by first | rfl | (simp; done), by (repeat' (first | with_reducible exact Below.refl _ _ | with_reducible assumption | with_reducible refine q_alloc ?_ _ | with_reducible refine q_drew ?_ | with_reducible refine q_drewN _ ?_ | with_reducible refine q_setCell ?_ ?_ _ | (left; simp; done) | (right; simp; done) | (right; dsimp only; omega) | (left; dsimp only; omega)))⟩
      · exact absurd rfl hb
  · have ew : (a1 == b1) = false := by simpa using hw
    go_enter Try.func18, Try.ntmps18
    go_wp2_with fail
    go_returns
    exact ⟨by first | rfl | (simp [hw]; done), by (repeat' (first | with_reducible exact Below.refl _ _ | with_reducible assumption | with_reducible refine q_alloc ?_ _ | with_reducible refine q_drew ?_ | with_reducible refine q_drewN _ ?_ | with_reducible refine q_setCell ?_ ?_ _ | (left; simp; done) | (right; simp; done) | (right; dsimp only; omega) | (left; dsimp only; omega)))⟩
end Go.Proofs.Ytmcndiljldbkcaa
