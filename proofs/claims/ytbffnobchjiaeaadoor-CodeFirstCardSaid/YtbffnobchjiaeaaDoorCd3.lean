/- Layer 3: the entries of codes, names. -/
import Derived.Test.YtbffnobchjiaeaaDoorCd2
namespace Go.Proofs.YtbffnobchjiaeaaDoor
open Go Go.RowKit
set_option linter.unusedSimpArgs false
set_option linter.unusedVariables false
theorem ix_win (k : Nat) (h : k < 16) : ∀ w, (Instr.index 51 (tabV winT) (.int .i64 (k : Int))).run Tryd.prog w = .ok (eV (winT.getD k zeroE)) w := by
  intro w
  rcases (by omega : k = 0 ∨ k = 1 ∨ k = 2 ∨ k = 3 ∨ k = 4 ∨ k = 5 ∨ k = 6 ∨ k = 7 ∨ k = 8 ∨ k = 9 ∨ k = 10 ∨ k = 11 ∨ k = 12 ∨ k = 13 ∨ k = 14 ∨ k = 15) with rfl | rfl | rfl | rfl | rfl | rfl | rfl | rfl | rfl | rfl | rfl | rfl | rfl | rfl | rfl | rfl <;> kernel_rfl
theorem ix_draw (k : Nat) (h : k < 20) : ∀ w, (Instr.index 53 (tabV drawT) (.int .i64 (k : Int))).run Tryd.prog w = .ok (eV (drawT.getD k zeroE)) w := by
  intro w
  rcases (by omega : k = 0 ∨ k = 1 ∨ k = 2 ∨ k = 3 ∨ k = 4 ∨ k = 5 ∨ k = 6 ∨ k = 7 ∨ k = 8 ∨ k = 9 ∨ k = 10 ∨ k = 11 ∨ k = 12 ∨ k = 13 ∨ k = 14 ∨ k = 15 ∨ k = 16 ∨ k = 17 ∨ k = 18 ∨ k = 19) with rfl | rfl | rfl | rfl | rfl | rfl | rfl | rfl | rfl | rfl | rfl | rfl | rfl | rfl | rfl | rfl | rfl | rfl | rfl | rfl <;> kernel_rfl
theorem ix_hand (k : Nat) (h : k < 22) : ∀ w, (Instr.index 55 (tabV handT) (.int .i64 (k : Int))).run Tryd.prog w = .ok (eV (handT.getD k zeroE)) w := by
  intro w
  rcases (by omega : k = 0 ∨ k = 1 ∨ k = 2 ∨ k = 3 ∨ k = 4 ∨ k = 5 ∨ k = 6 ∨ k = 7 ∨ k = 8 ∨ k = 9 ∨ k = 10 ∨ k = 11 ∨ k = 12 ∨ k = 13 ∨ k = 14 ∨ k = 15 ∨ k = 16 ∨ k = 17 ∨ k = 18 ∨ k = 19 ∨ k = 20 ∨ k = 21) with rfl | rfl | rfl | rfl | rfl | rfl | rfl | rfl | rfl | rfl | rfl | rfl | rfl | rfl | rfl | rfl | rfl | rfl | rfl | rfl | rfl | rfl <;> kernel_rfl
theorem ix_ev (k : Nat) (h : k < 25) : ∀ w, (Instr.index 60 (tabV evT) (.int .i64 (k : Int))).run Tryd.prog w = .ok (eV (evT.getD k zeroE)) w := by
  intro w
  rcases (by omega : k = 0 ∨ k = 1 ∨ k = 2 ∨ k = 3 ∨ k = 4 ∨ k = 5 ∨ k = 6 ∨ k = 7 ∨ k = 8 ∨ k = 9 ∨ k = 10 ∨ k = 11 ∨ k = 12 ∨ k = 13 ∨ k = 14 ∨ k = 15 ∨ k = 16 ∨ k = 17 ∨ k = 18 ∨ k = 19 ∨ k = 20 ∨ k = 21 ∨ k = 22 ∨ k = 23 ∨ k = 24) with rfl | rfl | rfl | rfl | rfl | rfl | rfl | rfl | rfl | rfl | rfl | rfl | rfl | rfl | rfl | rfl | rfl | rfl | rfl | rfl | rfl | rfl | rfl | rfl | rfl <;> kernel_rfl
theorem reqT_out (n : Int) (h : n < 1 ∨ 58 < n) : reqT n = zeroE := by unfold reqT; rw [if_pos h]
theorem reqT_win (k : Nat) (h : k < 16) : reqT ((k : Int) + 1) = winT.getD k zeroE := by
  unfold reqT; rw [if_neg (by omega), if_pos (by omega)]; congr 1; omega
theorem reqT_draw (k : Nat) (h : k < 20) : reqT ((k : Int) + 17) = drawT.getD k zeroE := by
  unfold reqT; rw [if_neg (by omega), if_neg (by omega), if_pos (by omega)]; congr 1; omega
theorem reqT_hand (k : Nat) (h : k < 22) : reqT ((k : Int) + 37) = handT.getD k zeroE := by
  unfold reqT; rw [if_neg (by omega), if_neg (by omega), if_neg (by omega)]; congr 1; omega
theorem eveT_out (n : Int) (h : n < 1 ∨ 25 < n) : eveT n = zeroE := by unfold eveT; rw [if_pos h]
theorem eveT_in (k : Nat) (h : k < 25) : eveT ((k : Int) + 1) = evT.getD k zeroE := by
  unfold eveT; rw [if_neg (by omega)]; congr 1; omega
set_option maxRecDepth 100000 in
set_option maxHeartbeats 1000000 in
theorem request_any (n : Int) (w : World) : Calls Tryd.prog 26 #[i6 n] w fun e w' => e = .returned (eV (reqT n)) ∧ Below w.heap.size w w' := by
  by_cases h1 : n < 1
  · rw [reqT_out n (Or.inl h1)]
    go_enter Tryd.func26, Tryd.ntmps26
    go_wp2_with fail
    exact bodyPost_ret (v := eV zeroE) (by simp [results, Tryd.results26, go_sem, zeroE]) rfl ⟨rfl, by (repeat' (first | with_reducible exact Below.refl _ _ | with_reducible assumption | with_reducible refine q_alloc ?_ _ | with_reducible refine q_drew ?_ | with_reducible refine q_drewN _ ?_ | with_reducible refine q_setCell ?_ ?_ _ | (left; simp; done) | (right; simp; done) | (right; dsimp only; omega) | (left; dsimp only; omega)))⟩
  by_cases h2 : 58 < n
  · rw [reqT_out n (Or.inr h2)]
    go_enter Tryd.func26, Tryd.ntmps26
    go_wp2_with fail
    exact bodyPost_ret (v := eV zeroE) (by simp [results, Tryd.results26, go_sem, zeroE]) rfl ⟨rfl, by (repeat' (first | with_reducible exact Below.refl _ _ | with_reducible assumption | with_reducible refine q_alloc ?_ _ | with_reducible refine q_drew ?_ | with_reducible refine q_drewN _ ?_ | with_reducible refine q_setCell ?_ ?_ _ | (left; simp; done) | (right; simp; done) | (right; dsimp only; omega) | (left; dsimp only; omega)))⟩
  by_cases h3 : n ≤ 16
  · obtain ⟨k, hk, rfl⟩ : ∃ k : Nat, k < 16 ∧ n = (k : Int) + 1 := ⟨(n - 1).toNat, by omega, by omega⟩
    rw [reqT_win k hk]
    have hix := ix_win k hk
    generalize winT.getD k zeroE = en at hix ⊢
    generalize hTV : tabV winT = TV at hix
    have HTV := Lib.hid hTV
    clear hTV
    have hwr : IntKind.i64.wrap ((k : Int) + 1 - 1) = (k : Int) := by rw [IntWalk.i64_in _ (by omega)]; omega
    have hsb : (k : Int) + 1 - 1 = (k : Int) := by omega
    go_enter Tryd.func26, Tryd.ntmps26
    go_wp2_with fail
    refine (win_any _).mono ?_
    rintro e w1 ⟨rfl, hb⟩
    rw [HTV.out]
    have hq : Below w.heap.size w w1 := q_step (by (repeat' (first | with_reducible exact Below.refl _ _ | with_reducible assumption | with_reducible refine q_alloc ?_ _ | with_reducible refine q_drew ?_ | with_reducible refine q_drewN _ ?_ | with_reducible refine q_setCell ?_ ?_ _ | (left; simp; done) | (right; simp; done) | (right; dsimp only; omega) | (left; dsimp only; omega)))) hb
    have hd : Blk w1 w.heap.size [strV [], strV [], strV []] := Blk.below (Blk.new rfl) hb
    have d0 := hd.cell 0 rfl
    have d1 := hd.cell 1 rfl
    have d2 := hd.cell 2 rfl
    have f0 := hd.froz 0 rfl
    have f1 := hd.froz 1 rfl
    have f2 := hd.froz 2 rfl
    go_wp2_with fail
    refine body_world (fun W => Below w.heap.size w W ∧ Blk W w.heap.size [strV en.1, strV en.2.1, strV en.2.2]) ⟨by (repeat' (first | with_reducible exact Below.refl _ _ | with_reducible assumption | with_reducible refine q_alloc ?_ _ | with_reducible refine q_drew ?_ | with_reducible refine q_drewN _ ?_ | with_reducible refine q_setCell ?_ ?_ _ | (left; simp; done) | (right; simp; done) | (right; dsimp only; omega) | (left; dsimp only; omega))), ((hd.set 0 _ (by simp) rfl).set 1 _ (by simp) rfl).set 2 _ (by simp) rfl⟩ ?_
    intro W9 ⟨hq9, b9⟩
    clear d0 d1 d2 f0 f1 f2
    have d0 := b9.cell 0 rfl
    have d1 := b9.cell 1 rfl
    have d2 := b9.cell 2 rfl
    exact bodyPost_ret (v := eV en) (by simp [results, Tryd.results26, go_sem, d0, d1, d2]) rfl ⟨rfl, hq9⟩
  by_cases h4 : n ≤ 36
  · obtain ⟨k, hk, rfl⟩ : ∃ k : Nat, k < 20 ∧ n = (k : Int) + 17 := ⟨(n - 17).toNat, by omega, by omega⟩
    rw [reqT_draw k hk]
    have hix := ix_draw k hk
    generalize drawT.getD k zeroE = en at hix ⊢
    generalize hTV : tabV drawT = TV at hix
    have HTV := Lib.hid hTV
    clear hTV
    have hwr : IntKind.i64.wrap ((k : Int) + 17 - 17) = (k : Int) := by rw [IntWalk.i64_in _ (by omega)]; omega
    have hsb : (k : Int) + 17 - 17 = (k : Int) := by omega
    go_enter Tryd.func26, Tryd.ntmps26
    go_wp2_with fail
    refine (draw_any _).mono ?_
    rintro e w1 ⟨rfl, hb⟩
    rw [HTV.out]
    have hq : Below w.heap.size w w1 := q_step (by (repeat' (first | with_reducible exact Below.refl _ _ | with_reducible assumption | with_reducible refine q_alloc ?_ _ | with_reducible refine q_drew ?_ | with_reducible refine q_drewN _ ?_ | with_reducible refine q_setCell ?_ ?_ _ | (left; simp; done) | (right; simp; done) | (right; dsimp only; omega) | (left; dsimp only; omega)))) hb
    have hd : Blk w1 w.heap.size [strV [], strV [], strV []] := Blk.below (Blk.new rfl) hb
    have d0 := hd.cell 0 rfl
    have d1 := hd.cell 1 rfl
    have d2 := hd.cell 2 rfl
    have f0 := hd.froz 0 rfl
    have f1 := hd.froz 1 rfl
    have f2 := hd.froz 2 rfl
    go_wp2_with fail
    refine body_world (fun W => Below w.heap.size w W ∧ Blk W w.heap.size [strV en.1, strV en.2.1, strV en.2.2]) ⟨by (repeat' (first | with_reducible exact Below.refl _ _ | with_reducible assumption | with_reducible refine q_alloc ?_ _ | with_reducible refine q_drew ?_ | with_reducible refine q_drewN _ ?_ | with_reducible refine q_setCell ?_ ?_ _ | (left; simp; done) | (right; simp; done) | (right; dsimp only; omega) | (left; dsimp only; omega))), ((hd.set 0 _ (by simp) rfl).set 1 _ (by simp) rfl).set 2 _ (by simp) rfl⟩ ?_
    intro W9 ⟨hq9, b9⟩
    clear d0 d1 d2 f0 f1 f2
    have d0 := b9.cell 0 rfl
    have d1 := b9.cell 1 rfl
    have d2 := b9.cell 2 rfl
    exact bodyPost_ret (v := eV en) (by simp [results, Tryd.results26, go_sem, d0, d1, d2]) rfl ⟨rfl, hq9⟩
  · obtain ⟨k, hk, rfl⟩ : ∃ k : Nat, k < 22 ∧ n = (k : Int) + 37 := ⟨(n - 37).toNat, by omega, by omega⟩
    rw [reqT_hand k hk]
    have hix := ix_hand k hk
    generalize handT.getD k zeroE = en at hix ⊢
    generalize hTV : tabV handT = TV at hix
    have HTV := Lib.hid hTV
    clear hTV
    have hwr : IntKind.i64.wrap ((k : Int) + 37 - 37) = (k : Int) := by rw [IntWalk.i64_in _ (by omega)]; omega
    have hsb : (k : Int) + 37 - 37 = (k : Int) := by omega
    go_enter Tryd.func26, Tryd.ntmps26
    go_wp2_with fail
    refine (hand_any _).mono ?_
    rintro e w1 ⟨rfl, hb⟩
    rw [HTV.out]
    have hq : Below w.heap.size w w1 := q_step (by (repeat' (first | with_reducible exact Below.refl _ _ | with_reducible assumption | with_reducible refine q_alloc ?_ _ | with_reducible refine q_drew ?_ | with_reducible refine q_drewN _ ?_ | with_reducible refine q_setCell ?_ ?_ _ | (left; simp; done) | (right; simp; done) | (right; dsimp only; omega) | (left; dsimp only; omega)))) hb
    have hd : Blk w1 w.heap.size [strV [], strV [], strV []] := Blk.below (Blk.new rfl) hb
    have d0 := hd.cell 0 rfl
    have d1 := hd.cell 1 rfl
    have d2 := hd.cell 2 rfl
    have f0 := hd.froz 0 rfl
    have f1 := hd.froz 1 rfl
    have f2 := hd.froz 2 rfl
    go_wp2_with fail
    refine body_world (fun W => Below w.heap.size w W ∧ Blk W w.heap.size [strV en.1, strV en.2.1, strV en.2.2]) ⟨by (repeat' (first | with_reducible exact Below.refl _ _ | with_reducible assumption | with_reducible refine q_alloc ?_ _ | with_reducible refine q_drew ?_ | with_reducible refine q_drewN _ ?_ | with_reducible refine q_setCell ?_ ?_ _ | (left; simp; done) | (right; simp; done) | (right; dsimp only; omega) | (left; dsimp only; omega))), ((hd.set 0 _ (by simp) rfl).set 1 _ (by simp) rfl).set 2 _ (by simp) rfl⟩ ?_
    intro W9 ⟨hq9, b9⟩
    clear d0 d1 d2 f0 f1 f2
    have d0 := b9.cell 0 rfl
    have d1 := b9.cell 1 rfl
    have d2 := b9.cell 2 rfl
    exact bodyPost_ret (v := eV en) (by simp [results, Tryd.results26, go_sem, d0, d1, d2]) rfl ⟨rfl, hq9⟩
set_option maxRecDepth 100000 in
set_option maxHeartbeats 1000000 in
theorem event_any (n : Int) (w : World) : Calls Tryd.prog 28 #[i6 n] w fun e w' => e = .returned (eV (eveT n)) ∧ Below w.heap.size w w' := by
  by_cases h1 : n < 1
  · rw [eveT_out n (Or.inl h1)]
    go_enter Tryd.func28, Tryd.ntmps28
    go_wp2_with fail
    exact bodyPost_ret (v := eV zeroE) (by simp [results, Tryd.results28, go_sem, zeroE]) rfl ⟨rfl, by (repeat' (first | with_reducible exact Below.refl _ _ | with_reducible assumption | with_reducible refine q_alloc ?_ _ | with_reducible refine q_drew ?_ | with_reducible refine q_drewN _ ?_ | with_reducible refine q_setCell ?_ ?_ _ | (left; simp; done) | (right; simp; done) | (right; dsimp only; omega) | (left; dsimp only; omega)))⟩
  by_cases h2 : 25 < n
  · rw [eveT_out n (Or.inr h2)]
    go_enter Tryd.func28, Tryd.ntmps28
    go_wp2_with fail
    exact bodyPost_ret (v := eV zeroE) (by simp [results, Tryd.results28, go_sem, zeroE]) rfl ⟨rfl, by (repeat' (first | with_reducible exact Below.refl _ _ | with_reducible assumption | with_reducible refine q_alloc ?_ _ | with_reducible refine q_drew ?_ | with_reducible refine q_drewN _ ?_ | with_reducible refine q_setCell ?_ ?_ _ | (left; simp; done) | (right; simp; done) | (right; dsimp only; omega) | (left; dsimp only; omega)))⟩
  · obtain ⟨k, hk, rfl⟩ : ∃ k : Nat, k < 25 ∧ n = (k : Int) + 1 := ⟨(n - 1).toNat, by omega, by omega⟩
    rw [eveT_in k hk]
    have hix := ix_ev k hk
    generalize evT.getD k zeroE = en at hix ⊢
    generalize hTV : tabV evT = TV at hix
    have HTV := Lib.hid hTV
    clear hTV
    have hwr : IntKind.i64.wrap ((k : Int) + 1 - 1) = (k : Int) := by rw [IntWalk.i64_in _ (by omega)]; omega
    have hsb : (k : Int) + 1 - 1 = (k : Int) := by omega
    go_enter Tryd.func28, Tryd.ntmps28
    go_wp2_with fail
    refine (ev_any _).mono ?_
    rintro e w1 ⟨rfl, hb⟩
    rw [HTV.out]
    have hq : Below w.heap.size w w1 := q_step (by (repeat' (first | with_reducible exact Below.refl _ _ | with_reducible assumption | with_reducible refine q_alloc ?_ _ | with_reducible refine q_drew ?_ | with_reducible refine q_drewN _ ?_ | with_reducible refine q_setCell ?_ ?_ _ | (left; simp; done) | (right; simp; done) | (right; dsimp only; omega) | (left; dsimp only; omega)))) hb
    have hd : Blk w1 w.heap.size [strV [], strV [], strV []] := Blk.below (Blk.new rfl) hb
    have d0 := hd.cell 0 rfl
    have d1 := hd.cell 1 rfl
    have d2 := hd.cell 2 rfl
    have f0 := hd.froz 0 rfl
    have f1 := hd.froz 1 rfl
    have f2 := hd.froz 2 rfl
    go_wp2_with fail
    refine body_world (fun W => Below w.heap.size w W ∧ Blk W w.heap.size [strV en.1, strV en.2.1, strV en.2.2]) ⟨by (repeat' (first | with_reducible exact Below.refl _ _ | with_reducible assumption | with_reducible refine q_alloc ?_ _ | with_reducible refine q_drew ?_ | with_reducible refine q_drewN _ ?_ | with_reducible refine q_setCell ?_ ?_ _ | (left; simp; done) | (right; simp; done) | (right; dsimp only; omega) | (left; dsimp only; omega))), ((hd.set 0 _ (by simp) rfl).set 1 _ (by simp) rfl).set 2 _ (by simp) rfl⟩ ?_
    intro W9 ⟨hq9, b9⟩
    clear d0 d1 d2 f0 f1 f2
    have d0 := b9.cell 0 rfl
    have d1 := b9.cell 1 rfl
    have d2 := b9.cell 2 rfl
    exact bodyPost_ret (v := eV en) (by simp [results, Tryd.results28, go_sem, d0, d1, d2]) rfl ⟨rfl, hq9⟩
end Go.Proofs.YtbffnobchjiaeaaDoor
