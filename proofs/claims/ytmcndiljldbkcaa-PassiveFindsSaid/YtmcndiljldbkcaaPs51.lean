/- Layer 38: Find along any path. -/
import Derived.Test.YtmcndiljldbkcaaPs50
import Derived.Test.YtmcndiljldbkcaaPs8
namespace Go.Proofs.Ytmcndiljldbkcaa
open Go Go.RowKit
set_option linter.unusedSimpArgs false
set_option linter.unusedVariables false
set_option maxRecDepth 100000 in
set_option maxHeartbeats 16000000 in
theorem find_out (v P : Value) (gs : List G) (b : Bool) (c m : Int) (w : World) (hv : IsG w v gs) (hc : c < 1 ∨ mostC b < c) :
    Calls Try.prog 13 #[.agg #[v], P, .bool b, i6 c, i6 m] w fun e w' => e = .returned (.tuple #[zeroG, .bool false]) ∧ Below w.heap.size w w' := by
  obtain ⟨A, cap, rfl, hAf⟩ := hv
  obtain ⟨n, hn⟩ : ∃ n, gs.length = n := ⟨_, rfl⟩
  rw [hn]
  clear hn hAf
  have hcM : c < 1 ∨ (if b = true then 5 else 255) < c := hc
  clear hc
  by_cases g1 : c < 1
  · clear hcM
    cases b
    · skip
      go_enter Try.func13, Try.ntmps13
      go_upto_region 1 with fail
      refine code_world (fun W => Below w.heap.size w W ∧ Blk W w.heap.size [.slice A n cap] ∧ Blk W (w.heap.size + 1) [.bool false] ∧ Blk W (w.heap.size + 1 + 1) [i6 c] ∧ Blk W (w.heap.size + 1 + 1 + 1) [i6 m] ∧ Blk W (w.heap.size + 1 + 1 + 1 + 1) [i6 0, u3 0, .bool false, i6 0, i6 0, .bool false, i6 0, i6 0, i6 0]) ⟨by (repeat' (first | with_reducible exact Below.refl _ _ | with_reducible assumption | with_reducible refine q_alloc ?_ _ | with_reducible refine q_drew ?_ | with_reducible refine q_drewN _ ?_ | with_reducible refine q_setCell ?_ ?_ _ | (left; simp; done) | (right; simp; done) | (right; dsimp only; omega) | (left; dsimp only; omega))), ?_, ?_, ?_, ?_, ?_⟩ ?_
      · exact ((((Blk.new rfl).alloc _).alloc _).alloc _).alloc _
      · exact (((blk_new1 rfl).alloc _).alloc _).alloc _
      · exact ((blk_new2 rfl).alloc _).alloc _
      · exact (blk_new3 rfl).alloc _
      · exact blk_new4 rfl
      intro W1 ⟨hq1, b0, b1, b2, b3, b4⟩
      have d1 := b1.cell 0 rfl
      have d2 := b2.cell 0 rfl
      have B0 := Lib.hid b0
      have B1 := Lib.hid b1
      have B2 := Lib.hid b2
      have B3 := Lib.hid b3
      have B4 := Lib.hid b4
      clear b0 b1 b2 b3 b4
      have c4 := B4.out
      have e0 := c4.cell 0 rfl
      have f0 := c4.froz 0 rfl
      have e1 := c4.cell 1 rfl
      have f1 := c4.froz 1 rfl
      have e2 := c4.cell 2 rfl
      have f2 := c4.froz 2 rfl
      have e3 := c4.cell 3 rfl
      have f3 := c4.froz 3 rfl
      have e4 := c4.cell 4 rfl
      have f4 := c4.froz 4 rfl
      have e5 := c4.cell 5 rfl
      have f5 := c4.froz 5 rfl
      have e6 := c4.cell 6 rfl
      have f6 := c4.froz 6 rfl
      have e7 := c4.cell 7 rfl
      have f7 := c4.froz 7 rfl
      have e8 := c4.cell 8 rfl
      have f8 := c4.froz 8 rfl
      have hlt4 := c4.lt
      have HC4 := Lib.hid c4
      clear c4
      go_quiet (fail)
      go_wp2_with fail
      refine body_world (fun W => Below w.heap.size w W ∧ Blk W (w.heap.size + 1 + 1 + 1 + 1) [i6 0, u3 0, .bool false, i6 0, i6 0, .bool false, i6 0, i6 0, i6 0]) ⟨by (repeat' (first | with_reducible exact Below.refl _ _ | with_reducible assumption | with_reducible refine q_alloc ?_ _ | with_reducible refine q_drew ?_ | with_reducible refine q_drewN _ ?_ | with_reducible refine q_setCell ?_ ?_ _ | (left; simp; done) | (right; simp; done) | (right; dsimp only; omega) | (left; dsimp only; omega))), ((((((((((HC4.out.drewN _).set 0 _ (by simp) rfl).set 1 _ (by simp) rfl).set 2 _ (by simp) rfl).set 3 _ (by simp) rfl).set 4 _ (by simp) rfl).set 5 _ (by simp) rfl).set 6 _ (by simp) rfl).set 7 _ (by simp) rfl).set 8 _ (by simp) rfl)⟩ ?_
      intro W9 ⟨hq9, b9⟩
      clear e0 f0 e1 f1 e2 f2 e3 f3 e4 f4 e5 f5 e6 f6 e7 f7 e8 f8
      have e0 := b9.cell 0 rfl
      have e1 := b9.cell 1 rfl
      have e2 := b9.cell 2 rfl
      have e3 := b9.cell 3 rfl
      have e4 := b9.cell 4 rfl
      have e5 := b9.cell 5 rfl
      have e6 := b9.cell 6 rfl
      have e7 := b9.cell 7 rfl
      have e8 := b9.cell 8 rfl
      exact bodyPost_ret (v := .tuple #[zeroG, .bool false]) (by simp [results, Try.results13, go_sem, e0, e1, e2, e3, e4, e5, e6, e7, e8]) rfl ⟨rfl, hq9⟩
    · skip
      go_enter Try.func13, Try.ntmps13
      go_upto_region 1 with fail
      refine code_world (fun W => Below w.heap.size w W ∧ Blk W w.heap.size [.slice A n cap] ∧ Blk W (w.heap.size + 1) [.bool true] ∧ Blk W (w.heap.size + 1 + 1) [i6 c] ∧ Blk W (w.heap.size + 1 + 1 + 1) [i6 m] ∧ Blk W (w.heap.size + 1 + 1 + 1 + 1) [i6 0, u3 0, .bool false, i6 0, i6 0, .bool false, i6 0, i6 0, i6 0]) ⟨by (repeat' (first | with_reducible exact Below.refl _ _ | with_reducible assumption | with_reducible refine q_alloc ?_ _ | with_reducible refine q_drew ?_ | with_reducible refine q_drewN _ ?_ | with_reducible refine q_setCell ?_ ?_ _ | (left; simp; done) | (right; simp; done) | (right; dsimp only; omega) | (left; dsimp only; omega))), ?_, ?_, ?_, ?_, ?_⟩ ?_
      · exact ((((Blk.new rfl).alloc _).alloc _).alloc _).alloc _
      · exact (((blk_new1 rfl).alloc _).alloc _).alloc _
      · exact ((blk_new2 rfl).alloc _).alloc _
      · exact (blk_new3 rfl).alloc _
      · exact blk_new4 rfl
      intro W1 ⟨hq1, b0, b1, b2, b3, b4⟩
      have d1 := b1.cell 0 rfl
      have d2 := b2.cell 0 rfl
      have B0 := Lib.hid b0
      have B1 := Lib.hid b1
      have B2 := Lib.hid b2
      have B3 := Lib.hid b3
      have B4 := Lib.hid b4
      clear b0 b1 b2 b3 b4
      have c4 := B4.out
      have e0 := c4.cell 0 rfl
      have f0 := c4.froz 0 rfl
      have e1 := c4.cell 1 rfl
      have f1 := c4.froz 1 rfl
      have e2 := c4.cell 2 rfl
      have f2 := c4.froz 2 rfl
      have e3 := c4.cell 3 rfl
      have f3 := c4.froz 3 rfl
      have e4 := c4.cell 4 rfl
      have f4 := c4.froz 4 rfl
      have e5 := c4.cell 5 rfl
      have f5 := c4.froz 5 rfl
      have e6 := c4.cell 6 rfl
      have f6 := c4.froz 6 rfl
      have e7 := c4.cell 7 rfl
      have f7 := c4.froz 7 rfl
      have e8 := c4.cell 8 rfl
      have f8 := c4.froz 8 rfl
      have hlt4 := c4.lt
      have HC4 := Lib.hid c4
      clear c4
      go_quiet (fail)
      go_wp2_with fail
      refine body_world (fun W => Below w.heap.size w W ∧ Blk W (w.heap.size + 1 + 1 + 1 + 1) [i6 0, u3 0, .bool false, i6 0, i6 0, .bool false, i6 0, i6 0, i6 0]) ⟨by (repeat' (first | with_reducible exact Below.refl _ _ | with_reducible assumption | with_reducible refine q_alloc ?_ _ | with_reducible refine q_drew ?_ | with_reducible refine q_drewN _ ?_ | with_reducible refine q_setCell ?_ ?_ _ | (left; simp; done) | (right; simp; done) | (right; dsimp only; omega) | (left; dsimp only; omega))), ((((((((((HC4.out.drewN _).set 0 _ (by simp) rfl).set 1 _ (by simp) rfl).set 2 _ (by simp) rfl).set 3 _ (by simp) rfl).set 4 _ (by simp) rfl).set 5 _ (by simp) rfl).set 6 _ (by simp) rfl).set 7 _ (by simp) rfl).set 8 _ (by simp) rfl)⟩ ?_
      intro W9 ⟨hq9, b9⟩
      clear e0 f0 e1 f1 e2 f2 e3 f3 e4 f4 e5 f5 e6 f6 e7 f7 e8 f8
      have e0 := b9.cell 0 rfl
      have e1 := b9.cell 1 rfl
      have e2 := b9.cell 2 rfl
      have e3 := b9.cell 3 rfl
      have e4 := b9.cell 4 rfl
      have e5 := b9.cell 5 rfl
      have e6 := b9.cell 6 rfl
      have e7 := b9.cell 7 rfl
      have e8 := b9.cell 8 rfl
      exact bodyPost_ret (v := .tuple #[zeroG, .bool false]) (by simp [results, Try.results13, go_sem, e0, e1, e2, e3, e4, e5, e6, e7, e8]) rfl ⟨rfl, hq9⟩
  · have g3 : (if b = true then 5 else 255) < c := hcM.resolve_left g1
    clear hcM
    cases b
    · simp only [Bool.false_eq_true, if_false, if_true] at g3
      have g2 : (255 : Int) < c := g3
      clear g3
      go_enter Try.func13, Try.ntmps13
      go_upto_region 1 with fail
      refine code_world (fun W => Below w.heap.size w W ∧ Blk W w.heap.size [.slice A n cap] ∧ Blk W (w.heap.size + 1) [.bool false] ∧ Blk W (w.heap.size + 1 + 1) [i6 c] ∧ Blk W (w.heap.size + 1 + 1 + 1) [i6 m] ∧ Blk W (w.heap.size + 1 + 1 + 1 + 1) [i6 0, u3 0, .bool false, i6 0, i6 0, .bool false, i6 0, i6 0, i6 0]) ⟨by (repeat' (first | with_reducible exact Below.refl _ _ | with_reducible assumption | with_reducible refine q_alloc ?_ _ | with_reducible refine q_drew ?_ | with_reducible refine q_drewN _ ?_ | with_reducible refine q_setCell ?_ ?_ _ | (left; simp; done) | (right; simp; done) | (right; dsimp only; omega) | (left; dsimp only; omega))), ?_, ?_, ?_, ?_, ?_⟩ ?_
      · exact ((((Blk.new rfl).alloc _).alloc _).alloc _).alloc _
      · exact (((blk_new1 rfl).alloc _).alloc _).alloc _
      · exact ((blk_new2 rfl).alloc _).alloc _
      · exact (blk_new3 rfl).alloc _
      · exact blk_new4 rfl
      intro W1 ⟨hq1, b0, b1, b2, b3, b4⟩
      have d1 := b1.cell 0 rfl
      have d2 := b2.cell 0 rfl
      have B0 := Lib.hid b0
      have B1 := Lib.hid b1
      have B2 := Lib.hid b2
      have B3 := Lib.hid b3
      have B4 := Lib.hid b4
      clear b0 b1 b2 b3 b4
      have c4 := B4.out
      have e0 := c4.cell 0 rfl
      have f0 := c4.froz 0 rfl
      have e1 := c4.cell 1 rfl
      have f1 := c4.froz 1 rfl
      have e2 := c4.cell 2 rfl
      have f2 := c4.froz 2 rfl
      have e3 := c4.cell 3 rfl
      have f3 := c4.froz 3 rfl
      have e4 := c4.cell 4 rfl
      have f4 := c4.froz 4 rfl
      have e5 := c4.cell 5 rfl
      have f5 := c4.froz 5 rfl
      have e6 := c4.cell 6 rfl
      have f6 := c4.froz 6 rfl
      have e7 := c4.cell 7 rfl
      have f7 := c4.froz 7 rfl
      have e8 := c4.cell 8 rfl
      have f8 := c4.froz 8 rfl
      have hlt4 := c4.lt
      have HC4 := Lib.hid c4
      clear c4
      go_quiet ((go_at_call 26; first | exact quiet_eq (most_t _) | exact quiet_eq (most_f _)))
      go_wp2_with fail
      refine body_world (fun W => Below w.heap.size w W ∧ Blk W (w.heap.size + 1 + 1 + 1 + 1) [i6 0, u3 0, .bool false, i6 0, i6 0, .bool false, i6 0, i6 0, i6 0]) ⟨by (repeat' (first | with_reducible exact Below.refl _ _ | with_reducible assumption | with_reducible refine q_alloc ?_ _ | with_reducible refine q_drew ?_ | with_reducible refine q_drewN _ ?_ | with_reducible refine q_setCell ?_ ?_ _ | (left; simp; done) | (right; simp; done) | (right; dsimp only; omega) | (left; dsimp only; omega))), ((((((((((HC4.out.drewN _).set 0 _ (by simp) rfl).set 1 _ (by simp) rfl).set 2 _ (by simp) rfl).set 3 _ (by simp) rfl).set 4 _ (by simp) rfl).set 5 _ (by simp) rfl).set 6 _ (by simp) rfl).set 7 _ (by simp) rfl).set 8 _ (by simp) rfl)⟩ ?_
      intro W9 ⟨hq9, b9⟩
      clear e0 f0 e1 f1 e2 f2 e3 f3 e4 f4 e5 f5 e6 f6 e7 f7 e8 f8
      have e0 := b9.cell 0 rfl
      have e1 := b9.cell 1 rfl
      have e2 := b9.cell 2 rfl
      have e3 := b9.cell 3 rfl
      have e4 := b9.cell 4 rfl
      have e5 := b9.cell 5 rfl
      have e6 := b9.cell 6 rfl
      have e7 := b9.cell 7 rfl
      have e8 := b9.cell 8 rfl
      exact bodyPost_ret (v := .tuple #[zeroG, .bool false]) (by simp [results, Try.results13, go_sem, e0, e1, e2, e3, e4, e5, e6, e7, e8]) rfl ⟨rfl, hq9⟩
    · simp only [Bool.false_eq_true, if_false, if_true] at g3
      have g2 : (5 : Int) < c := g3
      clear g3
      go_enter Try.func13, Try.ntmps13
      go_upto_region 1 with fail
      refine code_world (fun W => Below w.heap.size w W ∧ Blk W w.heap.size [.slice A n cap] ∧ Blk W (w.heap.size + 1) [.bool true] ∧ Blk W (w.heap.size + 1 + 1) [i6 c] ∧ Blk W (w.heap.size + 1 + 1 + 1) [i6 m] ∧ Blk W (w.heap.size + 1 + 1 + 1 + 1) [i6 0, u3 0, .bool false, i6 0, i6 0, .bool false, i6 0, i6 0, i6 0]) ⟨by (repeat' (first | with_reducible exact Below.refl _ _ | with_reducible assumption | with_reducible refine q_alloc ?_ _ | with_reducible refine q_drew ?_ | with_reducible refine q_drewN _ ?_ | with_reducible refine q_setCell ?_ ?_ _ | (left; simp; done) | (right; simp; done) | (right; dsimp only; omega) | (left; dsimp only; omega))), ?_, ?_, ?_, ?_, ?_⟩ ?_
      · exact ((((Blk.new rfl).alloc _).alloc _).alloc _).alloc _
      · exact (((blk_new1 rfl).alloc _).alloc _).alloc _
      · exact ((blk_new2 rfl).alloc _).alloc _
      · exact (blk_new3 rfl).alloc _
      · exact blk_new4 rfl
      intro W1 ⟨hq1, b0, b1, b2, b3, b4⟩
      have d1 := b1.cell 0 rfl
      have d2 := b2.cell 0 rfl
      have B0 := Lib.hid b0
      have B1 := Lib.hid b1
      have B2 := Lib.hid b2
      have B3 := Lib.hid b3
      have B4 := Lib.hid b4
      clear b0 b1 b2 b3 b4
      have c4 := B4.out
      have e0 := c4.cell 0 rfl
      have f0 := c4.froz 0 rfl
      have e1 := c4.cell 1 rfl
      have f1 := c4.froz 1 rfl
      have e2 := c4.cell 2 rfl
      have f2 := c4.froz 2 rfl
      have e3 := c4.cell 3 rfl
      have f3 := c4.froz 3 rfl
      have e4 := c4.cell 4 rfl
      have f4 := c4.froz 4 rfl
      have e5 := c4.cell 5 rfl
      have f5 := c4.froz 5 rfl
      have e6 := c4.cell 6 rfl
      have f6 := c4.froz 6 rfl
      have e7 := c4.cell 7 rfl
      have f7 := c4.froz 7 rfl
      have e8 := c4.cell 8 rfl
      have f8 := c4.froz 8 rfl
      have hlt4 := c4.lt
      have HC4 := Lib.hid c4
      clear c4
      go_quiet ((go_at_call 26; first | exact quiet_eq (most_t _) | exact quiet_eq (most_f _)))
      go_wp2_with fail
      refine body_world (fun W => Below w.heap.size w W ∧ Blk W (w.heap.size + 1 + 1 + 1 + 1) [i6 0, u3 0, .bool false, i6 0, i6 0, .bool false, i6 0, i6 0, i6 0]) ⟨by (repeat' (first | with_reducible exact Below.refl _ _ | with_reducible assumption | with_reducible refine q_alloc ?_ _ | with_reducible refine q_drew ?_ | with_reducible refine q_drewN _ ?_ | with_reducible refine q_setCell ?_ ?_ _ | (left; simp; done) | (right; simp; done) | (right; dsimp only; omega) | (left; dsimp only; omega))), ((((((((((HC4.out.drewN _).set 0 _ (by simp) rfl).set 1 _ (by simp) rfl).set 2 _ (by simp) rfl).set 3 _ (by simp) rfl).set 4 _ (by simp) rfl).set 5 _ (by simp) rfl).set 6 _ (by simp) rfl).set 7 _ (by simp) rfl).set 8 _ (by simp) rfl)⟩ ?_
      intro W9 ⟨hq9, b9⟩
      clear e0 f0 e1 f1 e2 f2 e3 f3 e4 f4 e5 f5 e6 f6 e7 f7 e8 f8
      have e0 := b9.cell 0 rfl
      have e1 := b9.cell 1 rfl
      have e2 := b9.cell 2 rfl
      have e3 := b9.cell 3 rfl
      have e4 := b9.cell 4 rfl
      have e5 := b9.cell 5 rfl
      have e6 := b9.cell 6 rfl
      have e7 := b9.cell 7 rfl
      have e8 := b9.cell 8 rfl
      exact bodyPost_ret (v := .tuple #[zeroG, .bool false]) (by simp [results, Try.results13, go_sem, e0, e1, e2, e3, e4, e5, e6, e7, e8]) rfl ⟨rfl, hq9⟩
set_option maxRecDepth 100000 in
set_option maxHeartbeats 16000000 in
theorem find_in (v : Value) (gs : List G) (ia : Option Addr) (inn ic : Nat) (is : List Int) (b : Bool) (c m : Int) (w : World) (hv : IsG w v gs) (hl : gs.length ≤ 1000) (hs : IsInts w .u32 (.slice ia inn ic) is) (hin : is.length = inn) (hil : inn ≤ 1000) (hc1 : 1 ≤ c) (hc2 : c ≤ mostC b) :
    Calls Try.prog 13 #[.agg #[v], .slice ia inn ic, .bool b, i6 c, i6 m] w fun e w' => ∃ (x : G) (o : Bool), e = .returned (.tuple #[gV x, .bool o]) ∧ FoundIs b c m is gs x o ∧ Below w.heap.size w w' := by
  have HT := Lib.hid hv
  obtain ⟨A, cap, rfl, hAf⟩ := hv
  have HAF := Lib.hid hAf
  have HS := Lib.hid hs
  have HIN := Lib.hid hin
  have HR : ∀ o : Option G, foundL b c m gs is = o → findR b c m is gs = o := fun o h => (findR_in hc1 hc2).trans h
  have HRR := Lib.hid HR
  clear hAf hs hin HR
  obtain ⟨n, hn⟩ : ∃ n, gs.length = n := ⟨_, rfl⟩
  rw [hn] at HT HAF hl ⊢
  have HN := Lib.hid hn
  have hl' : gs.length ≤ 1000 := by rw [hn]; exact hl
  clear hn
  have g1 : ¬ c < 1 := by omega
  have hcM : c ≤ (if b = true then 5 else 255) := hc2
  clear hc2
  cases b
  · simp only [Bool.false_eq_true, if_false, if_true] at hcM
    have g2 : ¬ (255 : Int) < c := by omega
    clear hcM
    go_enter Try.func13, Try.ntmps13
    go_upto_region 1 with fail
    refine code_world (fun W => Below w.heap.size w W ∧ Blk W w.heap.size [.slice A n cap] ∧ Blk W (w.heap.size + 1) [.bool false] ∧ Blk W (w.heap.size + 1 + 1) [i6 c] ∧ Blk W (w.heap.size + 1 + 1 + 1) [i6 m] ∧ Blk W (w.heap.size + 1 + 1 + 1 + 1) [i6 0, u3 0, .bool false, i6 0, i6 0, .bool false, i6 0, i6 0, i6 0]) ⟨by (repeat' (first | with_reducible exact Below.refl _ _ | with_reducible assumption | with_reducible refine q_alloc ?_ _ | with_reducible refine q_drew ?_ | with_reducible refine q_drewN _ ?_ | with_reducible refine q_setCell ?_ ?_ _ | (left; simp; done) | (right; simp; done) | (right; dsimp only; omega) | (left; dsimp only; omega))), ?_, ?_, ?_, ?_, ?_⟩ ?_
    · exact ((((Blk.new rfl).alloc _).alloc _).alloc _).alloc _
    · exact (((blk_new1 rfl).alloc _).alloc _).alloc _
    · exact ((blk_new2 rfl).alloc _).alloc _
    · exact (blk_new3 rfl).alloc _
    · exact blk_new4 rfl
    intro W1 ⟨hq1, b0, b1, b2, b3, b4⟩
    have d1 := b1.cell 0 rfl
    have d2 := b2.cell 0 rfl
    have B0 := Lib.hid b0
    have B1 := Lib.hid b1
    have B2 := Lib.hid b2
    have B3 := Lib.hid b3
    have B4 := Lib.hid b4
    clear b0 b1 b2 b3 b4
    go_quiet ((go_at_call 26; first | exact quiet_eq (most_t _) | exact quiet_eq (most_f _)))
    go_wp2_with fail
    refine code_world (fun W => Below w.heap.size w W ∧ Blk W w.heap.size [.slice A n cap] ∧ Blk W (w.heap.size + 1) [.bool false] ∧ Blk W (w.heap.size + 1 + 1) [i6 c] ∧ Blk W (w.heap.size + 1 + 1 + 1) [i6 m] ∧ Blk W (w.heap.size + 1 + 1 + 1 + 1) [i6 0, u3 0, .bool false, i6 0, i6 0, .bool false, i6 0, i6 0, i6 0]) ⟨by (repeat' (first | with_reducible exact Below.refl _ _ | with_reducible assumption | with_reducible refine q_alloc ?_ _ | with_reducible refine q_drew ?_ | with_reducible refine q_drewN _ ?_ | with_reducible refine q_setCell ?_ ?_ _ | (left; simp; done) | (right; simp; done) | (right; dsimp only; omega) | (left; dsimp only; omega))), B0.out.drewN _, B1.out.drewN _, B2.out.drewN _, B3.out.drewN _, B4.out.drewN _⟩ ?_
    intro W2 ⟨hq2, b0, b1, b2, b3, b4⟩
    clear d1 d2 hq1 B0 B1 B2 B3 B4
    have s0 := stick (b0.cell 0 rfl)
    have B1 := Lib.hid b1
    have B2 := Lib.hid b2
    have B3 := Lib.hid b3
    have B4 := Lib.hid b4
    have hlt0 := b0.lt
    have hlt1 := b4.lt
    have HQ2 := Lib.hid hq2
    clear b1 b2 b3 b4 b0 hq2
    go_loopw [26] (fun i wr => ∃ k : Nat, k ≤ inn ∧ i = .int .i64 k ∧ Hid (NoneUp false c m gs is k) ∧ Below W2.heap.size W2 wr)
      (fun i _ => inn - (intOf i).toNat)
    case atStart => exact ⟨0, Nat.zero_le _, rfl, Lib.hid (noneUp_zero _ _ _ _ _), Below.refl _ _⟩
    case round =>
      obtain ⟨k, hk, rfl, hno, J⟩ := hrel
      by_cases hlt : k < inn
      · have hki : (k : Int) < inn := by omega
        obtain ⟨ib, ioff, rfl, hcs⟩ := cell_u3 HS.out HIN.out (by omega)
        obtain ⟨id, hx⟩ : ∃ id, is[k]? = some id := ⟨_, List.getElem?_eq_getElem (by rw [HIN.out]; exact hlt)⟩
        have y0 := cell_below (q_step HQ2.out J) (hcs k id hx)
        have HX := Lib.hid hx
        clear hcs hx
        go_upto_region 6 with fail
        refine code_world (fun W => Below W2.heap.size W2 W ∧ Blk W wr.heap.size [u3 id]) ⟨by (repeat' (first | with_reducible exact Below.refl _ _ | with_reducible assumption | with_reducible refine q_alloc ?_ _ | with_reducible refine q_drew ?_ | with_reducible refine q_drewN _ ?_ | with_reducible refine q_setCell ?_ ?_ _ | (left; simp; done) | (right; simp; done) | (right; dsimp only; omega) | (left; dsimp only; omega))), Blk.new rfl⟩ ?_
        intro W3 ⟨J3, c3⟩
        have C3 := Lib.hid c3
        clear J y0 c3
        go_wp2_with fail
        refine (index_f wr.heap.size (w.heap.size + 1) (w.heap.size + 1 + 1) (w.heap.size + 1 + 1 + 1) (actB id false c m) gs _ _ ?_ hl' (fun W x hW => act_any _ _ _ _ id false c m x W ?_ ?_ ?_ ?_)).mono ?_
        · exact HT.out.below (q_step HQ2.out J3)
        · exact cell_below hW (C3.out.cell 0 rfl)
        · exact cell_below hW ((B1.out.below J3).cell 0 rfl)
        · exact cell_below hW ((B2.out.below J3).cell 0 rfl)
        · exact cell_below hW ((B3.out.below J3).cell 0 rfl)
        rintro e w4 ⟨r, rfl, hr, hb⟩
        have J4 := q_step J3 hb
        clear J3 hb C3
        rcases hr with ⟨rfl, hr⟩ | ⟨j, x, rfl, hx, hpx, hfx⟩
        · have HNO := Lib.hid (noneUp_step hno.out HX.out hr)
          clear hr hno
          go_wp2_with fail
          go_roundw
          case rel => exact ⟨k + 1, by omega, by go_num, HNO, J4⟩
          case measure => simp [intOf] <;> omega
        · have hkn : j < n := by rw [← HN.out]; exact (List.getElem?_eq_some_iff.1 hx).1
          have HFD := Lib.hid (noneUp_hit hno.out HX.out hx hpx hfx)
          obtain ⟨gb, off, rfl, hgb, hlay⟩ := HAF.out (by omega)
          have hlx := fun q u hj => cell_below (q_step HQ2.out J4) (hlay j x hx q u hj)
          have hki2 : (j : Int) < (n : Int) := by omega
          have hgw : gb ≠ w.heap.size + 1 + 1 + 1 + 1 := by omega
          clear hlay hno hx hpx hfx
          have y0 := hlx 0 _ rfl
          rw [Nat.add_zero] at y0
          have y1 := hlx 1 _ rfl
          have y2 := hlx 2 _ rfl
          have y3 := hlx 3 _ rfl
          have y4 := hlx 4 _ rfl
          have y5 := hlx 5 _ rfl
          have y6 := hlx 6 _ rfl
          have y7 := hlx 7 _ rfl
          have y8 := hlx 8 _ rfl
          clear hlx
          have c4 := B4.out.below J4
          have e0 := c4.cell 0 rfl
          have f0 := c4.froz 0 rfl
          have e1 := c4.cell 1 rfl
          have f1 := c4.froz 1 rfl
          have e2 := c4.cell 2 rfl
          have f2 := c4.froz 2 rfl
          have e3 := c4.cell 3 rfl
          have f3 := c4.froz 3 rfl
          have e4 := c4.cell 4 rfl
          have f4 := c4.froz 4 rfl
          have e5 := c4.cell 5 rfl
          have f5 := c4.froz 5 rfl
          have e6 := c4.cell 6 rfl
          have f6 := c4.froz 6 rfl
          have e7 := c4.cell 7 rfl
          have f7 := c4.froz 7 rfl
          have e8 := c4.cell 8 rfl
          have f8 := c4.froz 8 rfl
          have hlt4 := c4.lt
          have HC4 := Lib.hid c4
          clear c4
          have hq4 := q_step HQ2.out J4
          go_wp2_with fail
          refine body_world (fun W => Below w.heap.size w W ∧ Blk W (w.heap.size + 1 + 1 + 1 + 1) (gL x)) ⟨by (repeat' (first | with_reducible exact Below.refl _ _ | with_reducible assumption | with_reducible refine q_alloc ?_ _ | with_reducible refine q_drew ?_ | with_reducible refine q_drewN _ ?_ | with_reducible refine q_setCell ?_ ?_ _ | (left; simp; done) | (right; simp; done) | (right; dsimp only; omega) | (left; dsimp only; omega))), (((((((((HC4.out.set 0 _ (by simp) rfl).set 1 _ (by simp) rfl).set 2 _ (by simp) rfl).set 3 _ (by simp) rfl).set 4 _ (by simp) rfl).set 5 _ (by simp) rfl).set 6 _ (by simp) rfl).set 7 _ (by simp) rfl).set 8 _ (by simp) rfl)⟩ ?_
          intro W9 ⟨hq9, b9⟩
          clear e0 f0 e1 f1 e2 f2 e3 f3 e4 f4 e5 f5 e6 f6 e7 f7 e8 f8
          have e0 := b9.cell 0 rfl
          have e1 := b9.cell 1 rfl
          have e2 := b9.cell 2 rfl
          have e3 := b9.cell 3 rfl
          have e4 := b9.cell 4 rfl
          have e5 := b9.cell 5 rfl
          have e6 := b9.cell 6 rfl
          have e7 := b9.cell 7 rfl
          have e8 := b9.cell 8 rfl
          exact bodyPost_ret (v := .tuple #[gV x, .bool true]) (by simp [results, Try.results13, go_sem, e0, e1, e2, e3, e4, e5, e6, e7, e8]) rfl ⟨x, true, rfl, ⟨HRR.out _ HFD.out, by simp⟩, hq9⟩
      · obtain rfl : k = inn := by omega
        have HFD := Lib.hid (noneUp_end hno.out (by rw [HIN.out]; exact Nat.le_refl _))
        clear hno
        have c4 := B4.out.below J
        have e0 := c4.cell 0 rfl
        have f0 := c4.froz 0 rfl
        have e1 := c4.cell 1 rfl
        have f1 := c4.froz 1 rfl
        have e2 := c4.cell 2 rfl
        have f2 := c4.froz 2 rfl
        have e3 := c4.cell 3 rfl
        have f3 := c4.froz 3 rfl
        have e4 := c4.cell 4 rfl
        have f4 := c4.froz 4 rfl
        have e5 := c4.cell 5 rfl
        have f5 := c4.froz 5 rfl
        have e6 := c4.cell 6 rfl
        have f6 := c4.froz 6 rfl
        have e7 := c4.cell 7 rfl
        have f7 := c4.froz 7 rfl
        have e8 := c4.cell 8 rfl
        have f8 := c4.froz 8 rfl
        have hlt4 := c4.lt
        have HC4 := Lib.hid c4
        clear c4
        have hq4 := q_step HQ2.out J
        go_wp2_with fail
        refine body_world (fun W => Below w.heap.size w W ∧ Blk W (w.heap.size + 1 + 1 + 1 + 1) [i6 0, u3 0, .bool false, i6 0, i6 0, .bool false, i6 0, i6 0, i6 0]) ⟨by (repeat' (first | with_reducible exact Below.refl _ _ | with_reducible assumption | with_reducible refine q_alloc ?_ _ | with_reducible refine q_drew ?_ | with_reducible refine q_drewN _ ?_ | with_reducible refine q_setCell ?_ ?_ _ | (left; simp; done) | (right; simp; done) | (right; dsimp only; omega) | (left; dsimp only; omega))), (((((((((HC4.out.set 0 _ (by simp) rfl).set 1 _ (by simp) rfl).set 2 _ (by simp) rfl).set 3 _ (by simp) rfl).set 4 _ (by simp) rfl).set 5 _ (by simp) rfl).set 6 _ (by simp) rfl).set 7 _ (by simp) rfl).set 8 _ (by simp) rfl)⟩ ?_
        intro W9 ⟨hq9, b9⟩
        clear e0 f0 e1 f1 e2 f2 e3 f3 e4 f4 e5 f5 e6 f6 e7 f7 e8 f8
        have e0 := b9.cell 0 rfl
        have e1 := b9.cell 1 rfl
        have e2 := b9.cell 2 rfl
        have e3 := b9.cell 3 rfl
        have e4 := b9.cell 4 rfl
        have e5 := b9.cell 5 rfl
        have e6 := b9.cell 6 rfl
        have e7 := b9.cell 7 rfl
        have e8 := b9.cell 8 rfl
        exact bodyPost_ret (v := .tuple #[zeroG, .bool false]) (by simp [results, Try.results13, go_sem, e0, e1, e2, e3, e4, e5, e6, e7, e8]) rfl ⟨zeroGr, false, rfl, ⟨HRR.out _ HFD.out, fun _ => rfl⟩, hq9⟩
  · simp only [Bool.false_eq_true, if_false, if_true] at hcM
    have g2 : ¬ (5 : Int) < c := by omega
    clear hcM
    go_enter Try.func13, Try.ntmps13
    go_upto_region 1 with fail
    refine code_world (fun W => Below w.heap.size w W ∧ Blk W w.heap.size [.slice A n cap] ∧ Blk W (w.heap.size + 1) [.bool true] ∧ Blk W (w.heap.size + 1 + 1) [i6 c] ∧ Blk W (w.heap.size + 1 + 1 + 1) [i6 m] ∧ Blk W (w.heap.size + 1 + 1 + 1 + 1) [i6 0, u3 0, .bool false, i6 0, i6 0, .bool false, i6 0, i6 0, i6 0]) ⟨by (repeat' (first | with_reducible exact Below.refl _ _ | with_reducible assumption | with_reducible refine q_alloc ?_ _ | with_reducible refine q_drew ?_ | with_reducible refine q_drewN _ ?_ | with_reducible refine q_setCell ?_ ?_ _ | (left; simp; done) | (right; simp; done) | (right; dsimp only; omega) | (left; dsimp only; omega))), ?_, ?_, ?_, ?_, ?_⟩ ?_
    · exact ((((Blk.new rfl).alloc _).alloc _).alloc _).alloc _
    · exact (((blk_new1 rfl).alloc _).alloc _).alloc _
    · exact ((blk_new2 rfl).alloc _).alloc _
    · exact (blk_new3 rfl).alloc _
    · exact blk_new4 rfl
    intro W1 ⟨hq1, b0, b1, b2, b3, b4⟩
    have d1 := b1.cell 0 rfl
    have d2 := b2.cell 0 rfl
    have B0 := Lib.hid b0
    have B1 := Lib.hid b1
    have B2 := Lib.hid b2
    have B3 := Lib.hid b3
    have B4 := Lib.hid b4
    clear b0 b1 b2 b3 b4
    go_quiet ((go_at_call 26; first | exact quiet_eq (most_t _) | exact quiet_eq (most_f _)))
    go_wp2_with fail
    refine code_world (fun W => Below w.heap.size w W ∧ Blk W w.heap.size [.slice A n cap] ∧ Blk W (w.heap.size + 1) [.bool true] ∧ Blk W (w.heap.size + 1 + 1) [i6 c] ∧ Blk W (w.heap.size + 1 + 1 + 1) [i6 m] ∧ Blk W (w.heap.size + 1 + 1 + 1 + 1) [i6 0, u3 0, .bool false, i6 0, i6 0, .bool false, i6 0, i6 0, i6 0]) ⟨by (repeat' (first | with_reducible exact Below.refl _ _ | with_reducible assumption | with_reducible refine q_alloc ?_ _ | with_reducible refine q_drew ?_ | with_reducible refine q_drewN _ ?_ | with_reducible refine q_setCell ?_ ?_ _ | (left; simp; done) | (right; simp; done) | (right; dsimp only; omega) | (left; dsimp only; omega))), B0.out.drewN _, B1.out.drewN _, B2.out.drewN _, B3.out.drewN _, B4.out.drewN _⟩ ?_
    intro W2 ⟨hq2, b0, b1, b2, b3, b4⟩
    clear d1 d2 hq1 B0 B1 B2 B3 B4
    have s0 := stick (b0.cell 0 rfl)
    have B1 := Lib.hid b1
    have B2 := Lib.hid b2
    have B3 := Lib.hid b3
    have B4 := Lib.hid b4
    have hlt0 := b0.lt
    have hlt1 := b4.lt
    have HQ2 := Lib.hid hq2
    clear b1 b2 b3 b4 b0 hq2
    go_loopw [26] (fun i wr => ∃ k : Nat, k ≤ inn ∧ i = .int .i64 k ∧ Hid (NoneUp true c m gs is k) ∧ Below W2.heap.size W2 wr)
      (fun i _ => inn - (intOf i).toNat)
    case atStart => exact ⟨0, Nat.zero_le _, rfl, Lib.hid (noneUp_zero _ _ _ _ _), Below.refl _ _⟩
    case round =>
      obtain ⟨k, hk, rfl, hno, J⟩ := hrel
      by_cases hlt : k < inn
      · have hki : (k : Int) < inn := by omega
        obtain ⟨ib, ioff, rfl, hcs⟩ := cell_u3 HS.out HIN.out (by omega)
        obtain ⟨id, hx⟩ : ∃ id, is[k]? = some id := ⟨_, List.getElem?_eq_getElem (by rw [HIN.out]; exact hlt)⟩
        have y0 := cell_below (q_step HQ2.out J) (hcs k id hx)
        have HX := Lib.hid hx
        clear hcs hx
        go_upto_region 6 with fail
        refine code_world (fun W => Below W2.heap.size W2 W ∧ Blk W wr.heap.size [u3 id]) ⟨by (repeat' (first | with_reducible exact Below.refl _ _ | with_reducible assumption | with_reducible refine q_alloc ?_ _ | with_reducible refine q_drew ?_ | with_reducible refine q_drewN _ ?_ | with_reducible refine q_setCell ?_ ?_ _ | (left; simp; done) | (right; simp; done) | (right; dsimp only; omega) | (left; dsimp only; omega))), Blk.new rfl⟩ ?_
        intro W3 ⟨J3, c3⟩
        have C3 := Lib.hid c3
        clear J y0 c3
        go_wp2_with fail
        refine (index_f wr.heap.size (w.heap.size + 1) (w.heap.size + 1 + 1) (w.heap.size + 1 + 1 + 1) (actB id true c m) gs _ _ ?_ hl' (fun W x hW => act_any _ _ _ _ id true c m x W ?_ ?_ ?_ ?_)).mono ?_
        · exact HT.out.below (q_step HQ2.out J3)
        · exact cell_below hW (C3.out.cell 0 rfl)
        · exact cell_below hW ((B1.out.below J3).cell 0 rfl)
        · exact cell_below hW ((B2.out.below J3).cell 0 rfl)
        · exact cell_below hW ((B3.out.below J3).cell 0 rfl)
        rintro e w4 ⟨r, rfl, hr, hb⟩
        have J4 := q_step J3 hb
        clear J3 hb C3
        rcases hr with ⟨rfl, hr⟩ | ⟨j, x, rfl, hx, hpx, hfx⟩
        · have HNO := Lib.hid (noneUp_step hno.out HX.out hr)
          clear hr hno
          go_wp2_with fail
          go_roundw
          case rel => exact ⟨k + 1, by omega, by go_num, HNO, J4⟩
          case measure => simp [intOf] <;> omega
        · have hkn : j < n := by rw [← HN.out]; exact (List.getElem?_eq_some_iff.1 hx).1
          have HFD := Lib.hid (noneUp_hit hno.out HX.out hx hpx hfx)
          obtain ⟨gb, off, rfl, hgb, hlay⟩ := HAF.out (by omega)
          have hlx := fun q u hj => cell_below (q_step HQ2.out J4) (hlay j x hx q u hj)
          have hki2 : (j : Int) < (n : Int) := by omega
          have hgw : gb ≠ w.heap.size + 1 + 1 + 1 + 1 := by omega
          clear hlay hno hx hpx hfx
          have y0 := hlx 0 _ rfl
          rw [Nat.add_zero] at y0
          have y1 := hlx 1 _ rfl
          have y2 := hlx 2 _ rfl
          have y3 := hlx 3 _ rfl
          have y4 := hlx 4 _ rfl
          have y5 := hlx 5 _ rfl
          have y6 := hlx 6 _ rfl
          have y7 := hlx 7 _ rfl
          have y8 := hlx 8 _ rfl
          clear hlx
          have c4 := B4.out.below J4
          have e0 := c4.cell 0 rfl
          have f0 := c4.froz 0 rfl
          have e1 := c4.cell 1 rfl
          have f1 := c4.froz 1 rfl
          have e2 := c4.cell 2 rfl
          have f2 := c4.froz 2 rfl
          have e3 := c4.cell 3 rfl
          have f3 := c4.froz 3 rfl
          have e4 := c4.cell 4 rfl
          have f4 := c4.froz 4 rfl
          have e5 := c4.cell 5 rfl
          have f5 := c4.froz 5 rfl
          have e6 := c4.cell 6 rfl
          have f6 := c4.froz 6 rfl
          have e7 := c4.cell 7 rfl
          have f7 := c4.froz 7 rfl
          have e8 := c4.cell 8 rfl
          have f8 := c4.froz 8 rfl
          have hlt4 := c4.lt
          have HC4 := Lib.hid c4
          clear c4
          have hq4 := q_step HQ2.out J4
          go_wp2_with fail
          refine body_world (fun W => Below w.heap.size w W ∧ Blk W (w.heap.size + 1 + 1 + 1 + 1) (gL x)) ⟨by (repeat' (first | with_reducible exact Below.refl _ _ | with_reducible assumption | with_reducible refine q_alloc ?_ _ | with_reducible refine q_drew ?_ | with_reducible refine q_drewN _ ?_ | with_reducible refine q_setCell ?_ ?_ _ | (left; simp; done) | (right; simp; done) | (right; dsimp only; omega) | (left; dsimp only; omega))), (((((((((HC4.out.set 0 _ (by simp) rfl).set 1 _ (by simp) rfl).set 2 _ (by simp) rfl).set 3 _ (by simp) rfl).set 4 _ (by simp) rfl).set 5 _ (by simp) rfl).set 6 _ (by simp) rfl).set 7 _ (by simp) rfl).set 8 _ (by simp) rfl)⟩ ?_
          intro W9 ⟨hq9, b9⟩
          clear e0 f0 e1 f1 e2 f2 e3 f3 e4 f4 e5 f5 e6 f6 e7 f7 e8 f8
          have e0 := b9.cell 0 rfl
          have e1 := b9.cell 1 rfl
          have e2 := b9.cell 2 rfl
          have e3 := b9.cell 3 rfl
          have e4 := b9.cell 4 rfl
          have e5 := b9.cell 5 rfl
          have e6 := b9.cell 6 rfl
          have e7 := b9.cell 7 rfl
          have e8 := b9.cell 8 rfl
          exact bodyPost_ret (v := .tuple #[gV x, .bool true]) (by simp [results, Try.results13, go_sem, e0, e1, e2, e3, e4, e5, e6, e7, e8]) rfl ⟨x, true, rfl, ⟨HRR.out _ HFD.out, by simp⟩, hq9⟩
      · obtain rfl : k = inn := by omega
        have HFD := Lib.hid (noneUp_end hno.out (by rw [HIN.out]; exact Nat.le_refl _))
        clear hno
        have c4 := B4.out.below J
        have e0 := c4.cell 0 rfl
        have f0 := c4.froz 0 rfl
        have e1 := c4.cell 1 rfl
        have f1 := c4.froz 1 rfl
        have e2 := c4.cell 2 rfl
        have f2 := c4.froz 2 rfl
        have e3 := c4.cell 3 rfl
        have f3 := c4.froz 3 rfl
        have e4 := c4.cell 4 rfl
        have f4 := c4.froz 4 rfl
        have e5 := c4.cell 5 rfl
        have f5 := c4.froz 5 rfl
        have e6 := c4.cell 6 rfl
        have f6 := c4.froz 6 rfl
        have e7 := c4.cell 7 rfl
        have f7 := c4.froz 7 rfl
        have e8 := c4.cell 8 rfl
        have f8 := c4.froz 8 rfl
        have hlt4 := c4.lt
        have HC4 := Lib.hid c4
        clear c4
        have hq4 := q_step HQ2.out J
        go_wp2_with fail
        refine body_world (fun W => Below w.heap.size w W ∧ Blk W (w.heap.size + 1 + 1 + 1 + 1) [i6 0, u3 0, .bool false, i6 0, i6 0, .bool false, i6 0, i6 0, i6 0]) ⟨by (repeat' (first | with_reducible exact Below.refl _ _ | with_reducible assumption | with_reducible refine q_alloc ?_ _ | with_reducible refine q_drew ?_ | with_reducible refine q_drewN _ ?_ | with_reducible refine q_setCell ?_ ?_ _ | (left; simp; done) | (right; simp; done) | (right; dsimp only; omega) | (left; dsimp only; omega))), (((((((((HC4.out.set 0 _ (by simp) rfl).set 1 _ (by simp) rfl).set 2 _ (by simp) rfl).set 3 _ (by simp) rfl).set 4 _ (by simp) rfl).set 5 _ (by simp) rfl).set 6 _ (by simp) rfl).set 7 _ (by simp) rfl).set 8 _ (by simp) rfl)⟩ ?_
        intro W9 ⟨hq9, b9⟩
        clear e0 f0 e1 f1 e2 f2 e3 f3 e4 f4 e5 f5 e6 f6 e7 f7 e8 f8
        have e0 := b9.cell 0 rfl
        have e1 := b9.cell 1 rfl
        have e2 := b9.cell 2 rfl
        have e3 := b9.cell 3 rfl
        have e4 := b9.cell 4 rfl
        have e5 := b9.cell 5 rfl
        have e6 := b9.cell 6 rfl
        have e7 := b9.cell 7 rfl
        have e8 := b9.cell 8 rfl
        exact bodyPost_ret (v := .tuple #[zeroG, .bool false]) (by simp [results, Try.results13, go_sem, e0, e1, e2, e3, e4, e5, e6, e7, e8]) rfl ⟨zeroGr, false, rfl, ⟨HRR.out _ HFD.out, fun _ => rfl⟩, hq9⟩
theorem find_any (v : Value) (gs : List G) (ia : Option Addr) (inn ic : Nat) (is : List Int) (b : Bool) (c m : Int) (w : World) (hv : IsG w v gs) (hl : gs.length ≤ 1000) (hs : IsInts w .u32 (.slice ia inn ic) is) (hin : is.length = inn) (hil : inn ≤ 1000) :
    Calls Try.prog 13 #[.agg #[v], .slice ia inn ic, .bool b, i6 c, i6 m] w fun e w' => ∃ (x : G) (o : Bool), e = .returned (.tuple #[gV x, .bool o]) ∧ FoundIs b c m is gs x o ∧ Below w.heap.size w w' := by
  by_cases h : c < 1 ∨ mostC b < c
  · refine (find_out v _ gs b c m w hv h).mono ?_
    rintro e w' ⟨rfl, hb⟩
    exact ⟨zeroGr, false, rfl, ⟨findR_out h, fun _ => rfl⟩, hb⟩
  · exact find_in v gs ia inn ic is b c m w hv hl hs hin hil (by omega) (by omega)
end Go.Proofs.Ytmcndiljldbkcaa
