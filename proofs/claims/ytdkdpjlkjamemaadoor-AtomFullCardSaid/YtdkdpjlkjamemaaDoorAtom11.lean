/- Layer 9: the example. -/
import Derived.Test.YtdkdpjlkjamemaaDoorAtom10
namespace Go.Proofs.YtdkdpjlkjamemaaDoor
open Go Go.RowKit Go.Maps
set_option linter.unusedSimpArgs false
set_option linter.unusedVariables false
set_option maxRecDepth 100000 in
set_option maxHeartbeats 8000000 in
theorem awake09 (w : World) (hs : RowAt 0 knownCells w) :
    Calls Tryd.prog 9 #[] w fun e w' => e = .returned (.bool true) ∧ Below w.heap.size w w' := by
  have HS := Lib.hid hs
  clear hs
  go_enter Tryd.func9, Tryd.ntmps9
  go_wp2_with fail
  refine (internT_any 0 (.slice none 0 0) (.map none) [] [105, 110, 99, 114] false _ HS.out (by decide) (by decide) (tab_zero _) (Nat.zero_le _)).mono ?_
  rintro e w1 ⟨a1, cap1, m1, rfl, hT1, hb⟩
  rw [show internL [] [105, 110, 99, 114] false = ([], 7, 0) by decide] at hT1 ⊢
  simp only [List.length_nil, List.length_cons, Nat.zero_add] at hT1 ⊢
  have hq1 : Below w.heap.size w w1 := hb
  clear hb 
  go_wp2_with fail
  refine calls_world (fun W => Below w.heap.size w W ∧ Blk W (w1.heap.size) [.slice a1 0 cap1, .map m1] ∧ TabLo 0 W (.slice a1 0 cap1) (.map m1) []) ⟨by (repeat' (first | with_reducible exact Below.refl _ _ | with_reducible assumption | with_reducible refine q_alloc ?_ _ | with_reducible refine q_drew ?_ | with_reducible refine q_drewN _ ?_ | with_reducible refine q_setCell ?_ ?_ _ | (left; simp; done) | (right; simp; done) | (right; dsimp only; omega) | (left; dsimp only; omega))), Blk.new rfl, hT1.below (q_alloc (Below.refl _ _) _)⟩ ?_
  intro W2 ⟨hq2, b2_0, t2_0⟩
  clear hq1 hT1
  refine (internT_any 0 (.slice a1 0 cap1) (.map m1) [] [120] true _ (HS.out.below hq2) (by decide) (by decide) t2_0 (Nat.zero_le _)).mono ?_
  rintro e w3 ⟨a2, cap2, m2, rfl, hT2, hb⟩
  rw [show internL [] [120] true = ([], 0, 0) by decide] at hT2 ⊢
  simp only [List.length_nil, List.length_cons, Nat.zero_add] at hT2 ⊢
  have hq3 : Below w.heap.size w w3 := q_step hq2 hb
  have b3_0 := b2_0.below hb
  have t3_0 := t2_0.below hb
  clear hb b2_0 hq2 t2_0
  have b3_0c0 := b3_0.cell 0 rfl
  have b3_0f0 := b3_0.froz 0 rfl
  have b3_0c1 := b3_0.cell 1 rfl
  have b3_0f1 := b3_0.froz 1 rfl
  have b3_0z := b3_0.lt
  go_wp2_with fail
  clear b3_0c0 b3_0f0 b3_0c1 b3_0f1 b3_0z
  refine calls_world (fun W => Below w.heap.size w W ∧ Blk W (w1.heap.size) [.slice a1 0 cap1, .map m1] ∧ Blk W (w3.heap.size) [.slice a2 0 cap2, .map m2] ∧ TabLo 0 W (.slice a1 0 cap1) (.map m1) [] ∧ TabLo 0 W (.slice a2 0 cap2) (.map m2) []) ⟨by (repeat' (first | with_reducible exact Below.refl _ _ | with_reducible assumption | with_reducible refine q_alloc ?_ _ | with_reducible refine q_drew ?_ | with_reducible refine q_drewN _ ?_ | with_reducible refine q_setCell ?_ ?_ _ | (left; simp; done) | (right; simp; done) | (right; dsimp only; omega) | (left; dsimp only; omega))), (b3_0).alloc _, Blk.new rfl, t3_0.below (q_alloc (Below.refl _ _) _), hT2.below (q_alloc (Below.refl _ _) _)⟩ ?_
  intro W4 ⟨hq4, b4_0, b4_1, t4_0, t4_1⟩
  clear b3_0 hq3 t3_0 hT2
  refine (internT_any 0 (.slice a2 0 cap2) (.map m2) [] [120] false _ (HS.out.below hq4) (by decide) (by decide) t4_1 (Nat.zero_le _)).mono ?_
  rintro e w5 ⟨a3, cap3, m3, rfl, hT3, hb⟩
  rw [show internL [] [120] false = ([[120]], 11, 0) by decide] at hT3 ⊢
  simp only [List.length_nil, List.length_cons, Nat.zero_add] at hT3 ⊢
  have hq5 : Below w.heap.size w w5 := q_step hq4 hb
  have b5_0 := b4_0.below hb
  have b5_1 := b4_1.below hb
  have t5_0 := t4_0.below hb
  have t5_1 := t4_1.below hb
  clear hb b4_0 b4_1 hq4 t4_0 t4_1
  have b5_0c0 := b5_0.cell 0 rfl
  have b5_0f0 := b5_0.froz 0 rfl
  have b5_0c1 := b5_0.cell 1 rfl
  have b5_0f1 := b5_0.froz 1 rfl
  have b5_0z := b5_0.lt
  have b5_1c0 := b5_1.cell 0 rfl
  have b5_1f0 := b5_1.froz 0 rfl
  have b5_1c1 := b5_1.cell 1 rfl
  have b5_1f1 := b5_1.froz 1 rfl
  have b5_1z := b5_1.lt
  go_wp2_with fail
  clear b5_0c0 b5_0f0 b5_0c1 b5_0f1 b5_0z b5_1c0 b5_1f0 b5_1c1 b5_1f1 b5_1z
  refine calls_world (fun W => Below w.heap.size w W ∧ Blk W (w1.heap.size) [.slice a1 0 cap1, .map m1] ∧ Blk W (w3.heap.size) [.slice a2 0 cap2, .map m2] ∧ Blk W (w5.heap.size) [.slice a3 1 cap3, .map m3] ∧ TabLo 0 W (.slice a1 0 cap1) (.map m1) [] ∧ TabLo 0 W (.slice a2 0 cap2) (.map m2) [] ∧ TabLo 0 W (.slice a3 1 cap3) (.map m3) [[120]]) ⟨by (repeat' (first | with_reducible exact Below.refl _ _ | with_reducible assumption | with_reducible refine q_alloc ?_ _ | with_reducible refine q_drew ?_ | with_reducible refine q_drewN _ ?_ | with_reducible refine q_setCell ?_ ?_ _ | (left; simp; done) | (right; simp; done) | (right; dsimp only; omega) | (left; dsimp only; omega))), (b5_0).alloc _, (b5_1).alloc _, Blk.new rfl, t5_0.below (q_alloc (Below.refl _ _) _), t5_1.below (q_alloc (Below.refl _ _) _), hT3.below (q_alloc (Below.refl _ _) _)⟩ ?_
  intro W6 ⟨hq6, b6_0, b6_1, b6_2, t6_0, t6_1, t6_2⟩
  clear b5_0 b5_1 hq5 t5_0 t5_1 hT3
  refine (internT_any 0 (.slice a3 1 cap3) (.map m3) [[120]] [120] true _ (HS.out.below hq6) (by decide) (by decide) t6_2 (Nat.zero_le _)).mono ?_
  rintro e w7 ⟨a4, cap4, m4, rfl, hT4, hb⟩
  rw [show internL [[120]] [120] true = ([[120]], 11, 0) by decide] at hT4 ⊢
  simp only [List.length_nil, List.length_cons, Nat.zero_add] at hT4 ⊢
  have hq7 : Below w.heap.size w w7 := q_step hq6 hb
  have b7_0 := b6_0.below hb
  have b7_1 := b6_1.below hb
  have b7_2 := b6_2.below hb
  have t7_0 := t6_0.below hb
  have t7_1 := t6_1.below hb
  have t7_2 := t6_2.below hb
  clear hb b6_0 b6_1 b6_2 hq6 t6_0 t6_1 t6_2
  have b7_0c0 := b7_0.cell 0 rfl
  have b7_0f0 := b7_0.froz 0 rfl
  have b7_0c1 := b7_0.cell 1 rfl
  have b7_0f1 := b7_0.froz 1 rfl
  have b7_0z := b7_0.lt
  have b7_1c0 := b7_1.cell 0 rfl
  have b7_1f0 := b7_1.froz 0 rfl
  have b7_1c1 := b7_1.cell 1 rfl
  have b7_1f1 := b7_1.froz 1 rfl
  have b7_1z := b7_1.lt
  have b7_2c0 := b7_2.cell 0 rfl
  have b7_2f0 := b7_2.froz 0 rfl
  have b7_2c1 := b7_2.cell 1 rfl
  have b7_2f1 := b7_2.froz 1 rfl
  have b7_2z := b7_2.lt
  go_wp2_with fail
  clear b7_0c0 b7_0f0 b7_0c1 b7_0f1 b7_0z b7_1c0 b7_1f0 b7_1c1 b7_1f1 b7_1z b7_2c0 b7_2f0 b7_2c1 b7_2f1 b7_2z
  refine calls_world (fun W => Below w.heap.size w W ∧ Blk W (w1.heap.size) [.slice a1 0 cap1, .map m1] ∧ Blk W (w3.heap.size) [.slice a2 0 cap2, .map m2] ∧ Blk W (w5.heap.size) [.slice a3 1 cap3, .map m3] ∧ Blk W (w7.heap.size) [.slice a4 1 cap4, .map m4] ∧ TabLo 0 W (.slice a1 0 cap1) (.map m1) [] ∧ TabLo 0 W (.slice a2 0 cap2) (.map m2) [] ∧ TabLo 0 W (.slice a3 1 cap3) (.map m3) [[120]] ∧ TabLo 0 W (.slice a4 1 cap4) (.map m4) [[120]]) ⟨by (repeat' (first | with_reducible exact Below.refl _ _ | with_reducible assumption | with_reducible refine q_alloc ?_ _ | with_reducible refine q_drew ?_ | with_reducible refine q_drewN _ ?_ | with_reducible refine q_setCell ?_ ?_ _ | (left; simp; done) | (right; simp; done) | (right; dsimp only; omega) | (left; dsimp only; omega))), (b7_0).alloc _, (b7_1).alloc _, (b7_2).alloc _, Blk.new rfl, t7_0.below (q_alloc (Below.refl _ _) _), t7_1.below (q_alloc (Below.refl _ _) _), t7_2.below (q_alloc (Below.refl _ _) _), hT4.below (q_alloc (Below.refl _ _) _)⟩ ?_
  intro W8 ⟨hq8, b8_0, b8_1, b8_2, b8_3, t8_0, t8_1, t8_2, t8_3⟩
  clear b7_0 b7_1 b7_2 hq7 t7_0 t7_1 t7_2 hT4
  refine (name_any (.slice a3 1 cap3) (.map m3) [[120]] 11 _ (HS.out.below hq8) (by decide) t8_2.1 (by decide) (by decide)).mono ?_
  rintro e w9 ⟨rfl, hb⟩
  rw [show nameL (knownL ++ [[120]]) 11 = ([120], true) by decide]
  have hq9 : Below w.heap.size w w9 := q_step hq8 hb
  have b9_0 := b8_0.below hb
  have b9_1 := b8_1.below hb
  have b9_2 := b8_2.below hb
  have b9_3 := b8_3.below hb
  have t9_0 := t8_0.below hb
  have t9_1 := t8_1.below hb
  have t9_2 := t8_2.below hb
  have t9_3 := t8_3.below hb
  clear hb b8_0 b8_1 b8_2 b8_3 hq8 t8_0 t8_1 t8_2 t8_3
  have b9_0c0 := b9_0.cell 0 rfl
  have b9_0f0 := b9_0.froz 0 rfl
  have b9_0c1 := b9_0.cell 1 rfl
  have b9_0f1 := b9_0.froz 1 rfl
  have b9_0z := b9_0.lt
  have b9_1c0 := b9_1.cell 0 rfl
  have b9_1f0 := b9_1.froz 0 rfl
  have b9_1c1 := b9_1.cell 1 rfl
  have b9_1f1 := b9_1.froz 1 rfl
  have b9_1z := b9_1.lt
  have b9_2c0 := b9_2.cell 0 rfl
  have b9_2f0 := b9_2.froz 0 rfl
  have b9_2c1 := b9_2.cell 1 rfl
  have b9_2f1 := b9_2.froz 1 rfl
  have b9_2z := b9_2.lt
  have b9_3c0 := b9_3.cell 0 rfl
  have b9_3f0 := b9_3.froz 0 rfl
  have b9_3c1 := b9_3.cell 1 rfl
  have b9_3f1 := b9_3.froz 1 rfl
  have b9_3z := b9_3.lt
  go_wp2_with fail
  clear b9_0c0 b9_0f0 b9_0c1 b9_0f1 b9_0z b9_1c0 b9_1f0 b9_1c1 b9_1f1 b9_1z b9_2c0 b9_2f0 b9_2c1 b9_2f1 b9_2z b9_3c0 b9_3f0 b9_3c1 b9_3f1 b9_3z
  refine (lentN_any (.slice a3 1 cap3) (.map m3) [[120]] 11 _ (by decide) t9_2.1 rfl).mono ?_
  rintro e w10 ⟨rfl, hb⟩
  have hq10 : Below w.heap.size w w10 := q_step hq9 hb
  have b10_0 := b9_0.below hb
  have b10_1 := b9_1.below hb
  have b10_2 := b9_2.below hb
  have b10_3 := b9_3.below hb
  have t10_0 := t9_0.below hb
  have t10_1 := t9_1.below hb
  have t10_2 := t9_2.below hb
  have t10_3 := t9_3.below hb
  clear hb b9_0 b9_1 b9_2 b9_3 hq9 t9_0 t9_1 t9_2 t9_3
  have b10_0c0 := b10_0.cell 0 rfl
  have b10_0f0 := b10_0.froz 0 rfl
  have b10_0c1 := b10_0.cell 1 rfl
  have b10_0f1 := b10_0.froz 1 rfl
  have b10_0z := b10_0.lt
  have b10_1c0 := b10_1.cell 0 rfl
  have b10_1f0 := b10_1.froz 0 rfl
  have b10_1c1 := b10_1.cell 1 rfl
  have b10_1f1 := b10_1.froz 1 rfl
  have b10_1z := b10_1.lt
  have b10_2c0 := b10_2.cell 0 rfl
  have b10_2f0 := b10_2.froz 0 rfl
  have b10_2c1 := b10_2.cell 1 rfl
  have b10_2f1 := b10_2.froz 1 rfl
  have b10_2z := b10_2.lt
  have b10_3c0 := b10_3.cell 0 rfl
  have b10_3f0 := b10_3.froz 0 rfl
  have b10_3c1 := b10_3.cell 1 rfl
  have b10_3f1 := b10_3.froz 1 rfl
  have b10_3z := b10_3.lt
  go_wp2_with fail
  clear b10_0c0 b10_0f0 b10_0c1 b10_0f1 b10_0z b10_1c0 b10_1f0 b10_1c1 b10_1f1 b10_1z b10_2c0 b10_2f0 b10_2c1 b10_2f1 b10_2z b10_3c0 b10_3f0 b10_3c1 b10_3f1 b10_3z
  refine (lentN_any (.slice a1 0 cap1) (.map m1) [] 10 _ (by decide) t10_0.1 rfl).mono ?_
  rintro e w11 ⟨rfl, hb⟩
  have hq11 : Below w.heap.size w w11 := q_step hq10 hb
  have b11_0 := b10_0.below hb
  have b11_1 := b10_1.below hb
  have b11_2 := b10_2.below hb
  have b11_3 := b10_3.below hb
  have t11_0 := t10_0.below hb
  have t11_1 := t10_1.below hb
  have t11_2 := t10_2.below hb
  have t11_3 := t10_3.below hb
  clear hb b10_0 b10_1 b10_2 b10_3 hq10 t10_0 t10_1 t10_2 t10_3
  have b11_0c0 := b11_0.cell 0 rfl
  have b11_0f0 := b11_0.froz 0 rfl
  have b11_0c1 := b11_0.cell 1 rfl
  have b11_0f1 := b11_0.froz 1 rfl
  have b11_0z := b11_0.lt
  have b11_1c0 := b11_1.cell 0 rfl
  have b11_1f0 := b11_1.froz 0 rfl
  have b11_1c1 := b11_1.cell 1 rfl
  have b11_1f1 := b11_1.froz 1 rfl
  have b11_1z := b11_1.lt
  have b11_2c0 := b11_2.cell 0 rfl
  have b11_2f0 := b11_2.froz 0 rfl
  have b11_2c1 := b11_2.cell 1 rfl
  have b11_2f1 := b11_2.froz 1 rfl
  have b11_2z := b11_2.lt
  have b11_3c0 := b11_3.cell 0 rfl
  have b11_3f0 := b11_3.froz 0 rfl
  have b11_3c1 := b11_3.cell 1 rfl
  have b11_3f1 := b11_3.froz 1 rfl
  have b11_3z := b11_3.lt
  go_wp2_with fail
  go_returns
  exact ⟨rfl, hq11⟩
end Go.Proofs.YtdkdpjlkjamemaaDoor
