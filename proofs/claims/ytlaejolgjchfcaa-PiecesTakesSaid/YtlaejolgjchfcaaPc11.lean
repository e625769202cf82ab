/- Layer 42: the two kinds agree; the reference's Read. -/
import Derived.Test.YtlaejolgjchfcaaPc10
namespace Go.Proofs.Ytlaejolgjchfcaa
open Go Go.RowKit
set_option linter.unusedSimpArgs false
set_option linter.unusedVariables false
theorem kind_meet (a : Bool) (t : Int) (n : Nat) (l ok : Bool) : kindR a t n l ok = kindZ a t n l ok := by
  unfold kindR kindZ r1B r2B r3B r4B
  cases a <;> cases l <;> cases ok <;> simp <;> (repeat' split) <;> (try rfl) <;> omega
set_option maxRecDepth 100000 in
theorem rread_short (a : Option Addr) (n cap : Nat) (w : World) (h : n < 2) :
    Calls Try.prog 26 #[.slice a n cap] w fun e w' => e = .returned (.tuple #[pV false 0 (.slice none 0 0) false, i6 3]) ∧ Below w.heap.size w w' := by
  have h1 : (n : Int) < 2 := by omega
  go_enter Try.func26, Try.ntmps26
  go_wp2_with fail
  go_returns
  exact ⟨by first | rfl | (simp; done), by (repeat' (first | with_reducible exact Below.refl _ _ | with_reducible assumption | with_reducible refine q_alloc ?_ _ | with_reducible refine q_drew ?_ | with_reducible refine q_drewN _ ?_ | with_reducible refine q_setCell ?_ ?_ _ | (left; simp; done) | (right; simp; done) | (right; dsimp only; omega) | (left; dsimp only; omega)))⟩
set_option maxRecDepth 100000 in
theorem rread_kind (v : Value) (k : Int) (us : List Int) (w : World) (hv : IsI w v (k :: us)) (h : 1 ≤ us.length) (hl : us.length ≤ 1000000) (hk : k < 0 ∨ 3 < k) :
    Calls Try.prog 26 #[v] w fun e w' => e = .returned (.tuple #[pV false 0 (.slice none 0 0) false, i6 10]) ∧ Below w.heap.size w w' := by
  obtain ⟨a, cap, rfl, hf⟩ := isI_form hv
  obtain ⟨b, off, rfl, h2, h3, h4, h5⟩ := hf (by simp)
  have d0 := h5 0 k rfl
  rw [Nat.add_zero] at d0
  have hn : ¬ (((k :: us).length : Nat) : Int) < 2 := by simp <;> omega
  have hp : (0 : Int) < (((k :: us).length : Nat) : Int) := by simp <;> omega
  generalize (k :: us).length = n at hn hp
  clear hf hv h5
  rcases hk with hk | hk
  · go_enter Try.func26, Try.ntmps26
    go_wp2_with fail
    go_returns
    exact ⟨by first | rfl | (simp; done), by (repeat' (first | with_reducible exact Below.refl _ _ | with_reducible assumption | with_reducible refine q_alloc ?_ _ | with_reducible refine q_drew ?_ | with_reducible refine q_drewN _ ?_ | with_reducible refine q_setCell ?_ ?_ _ | (left; simp; done) | (right; simp; done) | (right; dsimp only; omega) | (left; dsimp only; omega)))⟩
  · have hk2 : ¬ k < 0 := by omega
    go_enter Try.func26, Try.ntmps26
    go_wp2_with fail
    go_returns
    exact ⟨by first | rfl | (simp; done), by (repeat' (first | with_reducible exact Below.refl _ _ | with_reducible assumption | with_reducible refine q_alloc ?_ _ | with_reducible refine q_drew ?_ | with_reducible refine q_drewN _ ?_ | with_reducible refine q_setCell ?_ ?_ _ | (left; simp; done) | (right; simp; done) | (right; dsimp only; omega) | (left; dsimp only; omega)))⟩
set_option maxRecDepth 100000 in
theorem rread_total (v : Value) (k t : Int) (us : List Int) (w : World) (hv : IsI w v (k :: t :: us)) (hl : us.length ≤ 1000000) (h0 : 0 ≤ k) (h3 : k ≤ 3) (ht : t < 0 ∨ 65536 < t) :
    Calls Try.prog 26 #[v] w fun e w' => e = .returned (.tuple #[pV false 0 (.slice none 0 0) false, i6 2]) ∧ Below w.heap.size w w' := by
  obtain ⟨a, cap, rfl, hf⟩ := isI_form hv
  obtain ⟨b, off, rfl, h2, _, h4, h5⟩ := hf (by simp)
  have d0 := h5 0 k rfl
  have d1 := h5 1 t rfl
  rw [Nat.add_zero] at d0
  have hn : ¬ (((k :: t :: us).length : Nat) : Int) < 2 := by simp <;> omega
  have hm0 : 0 < (k :: t :: us).length := by simp
  have hm1 : 1 < (k :: t :: us).length := by simp
  generalize (k :: t :: us).length = n at hn hm0 hm1
  clear hf hv h5
  have hk1 : ¬ k < 0 := by omega
  have hk2 : ¬ 3 < k := by omega
  rcases ht with ht | ht
  · go_enter Try.func26, Try.ntmps26
    go_wp2_with fail
    go_returns
    exact ⟨by first | rfl | (simp; done), by (repeat' (first | with_reducible exact Below.refl _ _ | with_reducible assumption | with_reducible refine q_alloc ?_ _ | with_reducible refine q_drew ?_ | with_reducible refine q_drewN _ ?_ | with_reducible refine q_setCell ?_ ?_ _ | (left; simp; done) | (right; simp; done) | (right; dsimp only; omega) | (left; dsimp only; omega)))⟩
  · have ht2 : ¬ t < 0 := by omega
    go_enter Try.func26, Try.ntmps26
    go_wp2_with fail
    go_returns
    exact ⟨by first | rfl | (simp; done), by (repeat' (first | with_reducible exact Below.refl _ _ | with_reducible assumption | with_reducible refine q_alloc ?_ _ | with_reducible refine q_drew ?_ | with_reducible refine q_drewN _ ?_ | with_reducible refine q_setCell ?_ ?_ _ | (left; simp; done) | (right; simp; done) | (right; dsimp only; omega) | (left; dsimp only; omega)))⟩
end Go.Proofs.Ytlaejolgjchfcaa
