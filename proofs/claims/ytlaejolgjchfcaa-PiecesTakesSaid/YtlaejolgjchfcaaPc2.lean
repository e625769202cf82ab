/- Layer 42: a piece's kind. -/
import Derived.Test.YtlaejolgjchfcaaPc2a
namespace Go.Proofs.Ytlaejolgjchfcaa
open Go Go.RowKit
set_option linter.unusedSimpArgs false
set_option linter.unusedVariables false
set_option maxRecDepth 100000 in
set_option maxHeartbeats 16000000 in
theorem kind_any (a : Bool) (t : Int) (dv : Value) (l : Bool) (us : List Int) (w : World) (hv : IsI w dv us) (hl : us.length ≤ 1000000) :
    Calls Try.prog 30 #[pV a t dv l] w fun e w' => e = .returned (i6 (kindZ a t us.length l (numsB us))) ∧ Below w.heap.size w w' := by
  obtain ⟨aa, cap, rfl, _⟩ := isI_form hv
  have HV := Lib.hid hv
  clear hv
  have hr23 : ¬ (r2B t us.length = true ∧ r3B t us.length = true) := by unfold r2B r3B; simp; omega
  obtain ⟨R, hR⟩ : ∃ R, kindZ a t us.length l (numsB us) = R := ⟨_, rfl⟩
  rw [hR]
  have HR := Lib.hid hR
  clear hR
  go_enter Try.func30, Try.ntmps30
  go_wp2_with fail
  refine calls_world (fun W => Below w.heap.size w W ∧ Blk W w.heap.size [.bool a, i6 t, .slice aa us.length cap, .bool l]) ⟨by (repeat' (first | with_reducible exact Below.refl _ _ | with_reducible assumption | with_reducible refine q_alloc ?_ _ | with_reducible refine q_drew ?_ | with_reducible refine q_drewN _ ?_ | with_reducible refine q_setCell ?_ ?_ _ | (left; simp; done) | (right; simp; done) | (right; dsimp only; omega) | (left; dsimp only; omega))), Blk.new rfl⟩ ?_
  intro W1 ⟨hq1, hb1⟩
  have HVQ := Lib.hid (HV.out.below hq1)
  have HQ := Lib.hid hq1
  generalize hA : w.heap.size = A at hb1 ⊢
  have HA := Lib.hid hA
  clear hA hq1 HV
  refine (rules_any _).mono ?_
  rintro e w2 ⟨rfl, J⟩
  have HJ := Lib.hid J
  have HVJ := Lib.hid (HVQ.out.below J)
  have c0 := cell_below J (hb1.cell 0 rfl)
  have c1 := cell_below J (hb1.cell 1 rfl)
  have c2 := cell_below J (hb1.cell 2 rfl)
  have c3 := cell_below J (hb1.cell 3 rfl)
  have z0 := block_lt_of_cell c0
  dsimp only at z0
  have z1 : A < w2.heap.size + 1 := by omega
  have z2 : A < w2.heap.size + 1 + 1 := by omega
  have z3 : A < w2.heap.size + 1 + 1 + 1 := by omega
  have z4 : A < w2.heap.size + 1 + 1 + 1 + 1 := by omega
  clear J hb1 HVQ
  have x0 := ix0
  have x1 := ix1
  have x2 := ix2
  have x3 := ix3
  generalize rulesL.toArray = RL at x0 x1 x2 x3 ⊢
  generalize hK1 : r1B t us.length = K1
  generalize hK2 : r2B t us.length = K2 at hr23
  generalize hK3 : r3B t us.length = K3 at hr23
  generalize hK4 : r4B t us.length = K4
  generalize hOK : numsB us = OK
  have H1 := Lib.hid hK1
  have H2 := Lib.hid hK2
  have H3 := Lib.hid hK3
  have H4 := Lib.hid hK4
  have HO := Lib.hid hOK
  clear hK1 hK2 hK3 hK4 hOK
  cases a
  all_goals cases l
  rotate_left
  · rcases (by cases K1 <;> cases OK <;> simp : (K1 = false) ∨ (K1 = true ∧ OK = false) ∨ (K1 = true ∧ OK = true)) with rfl | ⟨rfl, rfl⟩ | ⟨rfl, rfl⟩
    all_goals
      clear hr23
      go_wp2_with fail
      refine wp_loop_rounds 5 ?_
      repeat (any_goals (first | (go_at_call 35; refine (r1_any t (us.length : Int) _).mono ?_; rintro e w9 ⟨rfl, rfl⟩; rw [H1.out]; go_wp2_with fail) | (go_at_call 37; refine (r2_any t (us.length : Int) _).mono ?_; rintro e w9 ⟨rfl, rfl⟩; rw [H2.out]; go_wp2_with fail) | (go_at_call 39; refine (r3_any t (us.length : Int) _).mono ?_; rintro e w9 ⟨rfl, rfl⟩; rw [H3.out]; go_wp2_with fail) | (go_at_call 41; refine (r4_any t (us.length : Int) _).mono ?_; rintro e w9 ⟨rfl, rfl⟩; rw [H4.out]; go_wp2_with fail) | (go_at_call 27; refine (are_any _ us _ (HVJ.out.below (by (repeat' (first | with_reducible exact Below.refl _ _ | with_reducible assumption | with_reducible refine q_alloc ?_ _ | with_reducible refine q_drew ?_ | with_reducible refine q_drewN _ ?_ | with_reducible refine q_setCell ?_ ?_ _ | (left; simp; done) | (right; simp; done) | (right; dsimp only; omega) | (left; dsimp only; omega))))) hl).mono ?_; rintro e w9 ⟨rfl, rfl⟩; rw [HO.out]; go_wp2_with fail) | (rw [rounds_succ]; go_wp2_with fail)))
      go_returns
      exact ⟨by have h9 := HR.out; simp [kindZ, H1.out, H2.out, H3.out, H4.out, HO.out] at h9; subst h9; first | rfl | (simp; done), q_step HQ.out (q_step HJ.out (by (repeat' (first | with_reducible exact Below.refl _ _ | with_reducible assumption | with_reducible refine q_alloc ?_ _ | with_reducible refine q_drew ?_ | with_reducible refine q_drewN _ ?_ | with_reducible refine q_setCell ?_ ?_ _ | (left; simp; done) | (right; simp; done) | (right; dsimp only; omega) | (left; dsimp only; omega)))))⟩
  · rcases (by cases K2 <;> cases K3 <;> cases OK <;> simp_all : (K2 = false ∧ K3 = false) ∨ (K2 = true ∧ OK = false ∧ K3 = false) ∨ (K2 = true ∧ OK = true ∧ K3 = false) ∨ (K2 = false ∧ K3 = true ∧ OK = false) ∨ (K2 = false ∧ K3 = true ∧ OK = true)) with ⟨rfl, rfl⟩ | ⟨rfl, rfl, rfl⟩ | ⟨rfl, rfl, rfl⟩ | ⟨rfl, rfl, rfl⟩ | ⟨rfl, rfl, rfl⟩
    all_goals
      clear hr23
      go_wp2_with fail
      refine wp_loop_rounds 5 ?_
      repeat (any_goals (first | (go_at_call 35; refine (r1_any t (us.length : Int) _).mono ?_; rintro e w9 ⟨rfl, rfl⟩; rw [H1.out]; go_wp2_with fail) | (go_at_call 37; refine (r2_any t (us.length : Int) _).mono ?_; rintro e w9 ⟨rfl, rfl⟩; rw [H2.out]; go_wp2_with fail) | (go_at_call 39; refine (r3_any t (us.length : Int) _).mono ?_; rintro e w9 ⟨rfl, rfl⟩; rw [H3.out]; go_wp2_with fail) | (go_at_call 41; refine (r4_any t (us.length : Int) _).mono ?_; rintro e w9 ⟨rfl, rfl⟩; rw [H4.out]; go_wp2_with fail) | (go_at_call 27; refine (are_any _ us _ (HVJ.out.below (by (repeat' (first | with_reducible exact Below.refl _ _ | with_reducible assumption | with_reducible refine q_alloc ?_ _ | with_reducible refine q_drew ?_ | with_reducible refine q_drewN _ ?_ | with_reducible refine q_setCell ?_ ?_ _ | (left; simp; done) | (right; simp; done) | (right; dsimp only; omega) | (left; dsimp only; omega))))) hl).mono ?_; rintro e w9 ⟨rfl, rfl⟩; rw [HO.out]; go_wp2_with fail) | (rw [rounds_succ]; go_wp2_with fail)))
      go_returns
      exact ⟨by have h9 := HR.out; simp [kindZ, H1.out, H2.out, H3.out, H4.out, HO.out] at h9; subst h9; first | rfl | (simp; done), q_step HQ.out (q_step HJ.out (by (repeat' (first | with_reducible exact Below.refl _ _ | with_reducible assumption | with_reducible refine q_alloc ?_ _ | with_reducible refine q_drew ?_ | with_reducible refine q_drewN _ ?_ | with_reducible refine q_setCell ?_ ?_ _ | (left; simp; done) | (right; simp; done) | (right; dsimp only; omega) | (left; dsimp only; omega)))))⟩
  · rcases (by cases K4 <;> cases OK <;> simp : (K4 = false) ∨ (K4 = true ∧ OK = false) ∨ (K4 = true ∧ OK = true)) with rfl | ⟨rfl, rfl⟩ | ⟨rfl, rfl⟩
    all_goals
      clear hr23
      go_wp2_with fail
      refine wp_loop_rounds 5 ?_
      repeat (any_goals (first | (go_at_call 35; refine (r1_any t (us.length : Int) _).mono ?_; rintro e w9 ⟨rfl, rfl⟩; rw [H1.out]; go_wp2_with fail) | (go_at_call 37; refine (r2_any t (us.length : Int) _).mono ?_; rintro e w9 ⟨rfl, rfl⟩; rw [H2.out]; go_wp2_with fail) | (go_at_call 39; refine (r3_any t (us.length : Int) _).mono ?_; rintro e w9 ⟨rfl, rfl⟩; rw [H3.out]; go_wp2_with fail) | (go_at_call 41; refine (r4_any t (us.length : Int) _).mono ?_; rintro e w9 ⟨rfl, rfl⟩; rw [H4.out]; go_wp2_with fail) | (go_at_call 27; refine (are_any _ us _ (HVJ.out.below (by (repeat' (first | with_reducible exact Below.refl _ _ | with_reducible assumption | with_reducible refine q_alloc ?_ _ | with_reducible refine q_drew ?_ | with_reducible refine q_drewN _ ?_ | with_reducible refine q_setCell ?_ ?_ _ | (left; simp; done) | (right; simp; done) | (right; dsimp only; omega) | (left; dsimp only; omega))))) hl).mono ?_; rintro e w9 ⟨rfl, rfl⟩; rw [HO.out]; go_wp2_with fail) | (rw [rounds_succ]; go_wp2_with fail)))
      go_returns
      exact ⟨by have h9 := HR.out; simp [kindZ, H1.out, H2.out, H3.out, H4.out, HO.out] at h9; subst h9; first | rfl | (simp; done), q_step HQ.out (q_step HJ.out (by (repeat' (first | with_reducible exact Below.refl _ _ | with_reducible assumption | with_reducible refine q_alloc ?_ _ | with_reducible refine q_drew ?_ | with_reducible refine q_drewN _ ?_ | with_reducible refine q_setCell ?_ ?_ _ | (left; simp; done) | (right; simp; done) | (right; dsimp only; omega) | (left; dsimp only; omega)))))⟩
  · skip
    all_goals
      clear hr23
      go_wp2_with fail
      refine wp_loop_rounds 5 ?_
      repeat (any_goals (first | (go_at_call 35; refine (r1_any t (us.length : Int) _).mono ?_; rintro e w9 ⟨rfl, rfl⟩; rw [H1.out]; go_wp2_with fail) | (go_at_call 37; refine (r2_any t (us.length : Int) _).mono ?_; rintro e w9 ⟨rfl, rfl⟩; rw [H2.out]; go_wp2_with fail) | (go_at_call 39; refine (r3_any t (us.length : Int) _).mono ?_; rintro e w9 ⟨rfl, rfl⟩; rw [H3.out]; go_wp2_with fail) | (go_at_call 41; refine (r4_any t (us.length : Int) _).mono ?_; rintro e w9 ⟨rfl, rfl⟩; rw [H4.out]; go_wp2_with fail) | (go_at_call 27; refine (are_any _ us _ (HVJ.out.below (by (repeat' (first | with_reducible exact Below.refl _ _ | with_reducible assumption | with_reducible refine q_alloc ?_ _ | with_reducible refine q_drew ?_ | with_reducible refine q_drewN _ ?_ | with_reducible refine q_setCell ?_ ?_ _ | (left; simp; done) | (right; simp; done) | (right; dsimp only; omega) | (left; dsimp only; omega))))) hl).mono ?_; rintro e w9 ⟨rfl, rfl⟩; rw [HO.out]; go_wp2_with fail) | (rw [rounds_succ]; go_wp2_with fail)))
      go_returns
      exact ⟨by have h9 := HR.out; simp [kindZ, H1.out, H2.out, H3.out, H4.out, HO.out] at h9; subst h9; first | rfl | (simp; done), q_step HQ.out (q_step HJ.out (by (repeat' (first | with_reducible exact Below.refl _ _ | with_reducible assumption | with_reducible refine q_alloc ?_ _ | with_reducible refine q_drew ?_ | with_reducible refine q_drewN _ ?_ | with_reducible refine q_setCell ?_ ?_ _ | (left; simp; done) | (right; simp; done) | (right; dsimp only; omega) | (left; dsimp only; omega)))))⟩
end Go.Proofs.Ytlaejolgjchfcaa
