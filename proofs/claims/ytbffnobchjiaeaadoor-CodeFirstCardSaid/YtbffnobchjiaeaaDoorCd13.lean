/- Layer 3: the program's forms of codes. -/
import Derived.Test.YtbffnobchjiaeaaDoorCd12
namespace Go.Proofs.YtbffnobchjiaeaaDoor
open Go Go.RowKit
set_option linter.unusedSimpArgs false
set_option linter.unusedVariables false
/-- A form with a word, handed back. -/
def FormBack (F : F3) (ok : Bool) (w : World) (e : Ending) (w' : World) : Prop := ∃ fv, e = .returned (.tuple #[.agg #[fv, .bool F.2.1, i6 F.2.2], .bool ok]) ∧ OwnI w' w.heap.size fv F.1 ∧ Below w.heap.size w w'
theorem formBack_zero {w w' : World} (h : Below w.heap.size w w') : FormBack ([], false, 0) false w (.returned (.tuple #[.agg #[.slice none 0 0, .bool false, i6 0], .bool false])) w' := ⟨_, rfl, World.ownsRow_nil _ _ _ _, h⟩
set_option maxRecDepth 100000 in
set_option maxHeartbeats 2000000 in
theorem preq_out (n : Int) (w : World) (h : n < 1 ∨ 58 < n) : Calls Tryd.prog 9 #[i6 n] w (FormBack ([], false, 0) false w) := by
  have hz := reqT_out n h
  have HZ := Lib.hid hz
  clear hz h
  go_enter Tryd.func9, Tryd.ntmps9
  go_wp2_with fail
  refine (request_any n _).mono ?_
  rintro e w1 ⟨rfl, hb⟩
  rw [HZ.out]
  unfold zeroE
  have hq : Below w.heap.size w w1 := q_step (by (repeat' (first | with_reducible exact Below.refl _ _ | with_reducible assumption | with_reducible refine q_alloc ?_ _ | with_reducible refine q_drew ?_ | with_reducible refine q_drewN _ ?_ | with_reducible refine q_setCell ?_ ?_ _ | (left; simp; done) | (right; simp; done) | (right; dsimp only; omega) | (left; dsimp only; omega)))) hb
  have hd : Blk w1 w.heap.size [.slice none 0 0, .bool false, i6 0] := Blk.below (Blk.new rfl) hb
  have d0 := hd.cell 0 rfl
  have d1 := hd.cell 1 rfl
  have d2 := hd.cell 2 rfl
  have f0 := hd.froz 0 rfl
  have f1 := hd.froz 1 rfl
  have f2 := hd.froz 2 rfl
  have hlt := hd.lt
  go_wp2_with fail
  refine body_world (fun W => Below w.heap.size w W ∧ Blk W w.heap.size [.slice none 0 0, .bool false, i6 0]) ⟨by (repeat' (first | with_reducible exact Below.refl _ _ | with_reducible assumption | with_reducible refine q_alloc ?_ _ | with_reducible refine q_drew ?_ | with_reducible refine q_drewN _ ?_ | with_reducible refine q_setCell ?_ ?_ _ | (left; simp; done) | (right; simp; done) | (right; dsimp only; omega) | (left; dsimp only; omega))), (((hd.set 0 _ (by simp) rfl).set 1 _ (by simp) rfl).set 2 _ (by simp) rfl).alloc _⟩ ?_
  intro W9 ⟨hq9, b9⟩
  clear d0 d1 d2 f0 f1 f2
  have d0 := b9.cell 0 rfl
  have d1 := b9.cell 1 rfl
  have d2 := b9.cell 2 rfl
  exact bodyPost_ret (v := .tuple #[.agg #[.slice none 0 0, .bool false, i6 0], .bool false]) (by simp [results, Tryd.results9, go_sem, d0, d1, d2]) rfl (formBack_zero hq9)
set_option maxRecDepth 100000 in
set_option maxHeartbeats 4000000 in
theorem preq_in (n : Int) (en : E3) (w : World) (hen : reqT n = en) (h1 : en.1 ≠ []) (h2 : okS en.2.1 = true) (ht : RowAt 0 spaceC w) : Calls Tryd.prog 9 #[i6 n] w (FormBack (formF en.2.1).1 true w) := by
  have HE := Lib.hid hen
  have HT := Lib.hid ht
  have H2 := Lib.hid h2
  have e1 : (en.1 == []) = false := by simpa using h1
  have e1' : (en.1 == ([] : B8)) = false := e1
  clear hen ht h1 h2
  obtain ⟨FF, hFF⟩ : ∃ FF, formF en.2.1 = FF := ⟨_, rfl⟩
  rw [hFF]
  have HFF := Lib.hid hFF
  clear hFF
  go_enter Tryd.func9, Tryd.ntmps9
  go_wp2_with fail
  refine (request_any n _).mono ?_
  rintro e w1 ⟨rfl, hb⟩
  rw [HE.out]
  have hq : Below w.heap.size w w1 := q_step (by (repeat' (first | with_reducible exact Below.refl _ _ | with_reducible assumption | with_reducible refine q_alloc ?_ _ | with_reducible refine q_drew ?_ | with_reducible refine q_drewN _ ?_ | with_reducible refine q_setCell ?_ ?_ _ | (left; simp; done) | (right; simp; done) | (right; dsimp only; omega) | (left; dsimp only; omega)))) hb
  have hd : Blk w1 w.heap.size [.slice none 0 0, .bool false, i6 0] := Blk.below (Blk.new rfl) hb
  clear hb
  have HD := Lib.hid hd
  clear hd
  go_wp2_with fail
  refine (form_any en.2.1 _ H2.out ?_).mono ?_
  · exact HT.out.below (by (repeat' (first | with_reducible exact Below.refl _ _ | with_reducible assumption | with_reducible refine q_alloc ?_ _ | with_reducible refine q_drew ?_ | with_reducible refine q_drewN _ ?_ | with_reducible refine q_setCell ?_ ?_ _ | (left; simp; done) | (right; simp; done) | (right; dsimp only; omega) | (left; dsimp only; omega))))
  rintro e w2 ⟨fv, nv, rfl, hI, _, hb2⟩
  rw [HFF.out] at hI ⊢
  obtain ⟨fa, fm, fc, rfl⟩ := own_slice hI
  have hq2 : Below w.heap.size w w2 := q_step (by (repeat' (first | with_reducible exact Below.refl _ _ | with_reducible assumption | with_reducible refine q_alloc ?_ _ | with_reducible refine q_drew ?_ | with_reducible refine q_drewN _ ?_ | with_reducible refine q_setCell ?_ ?_ _ | (left; simp; done) | (right; simp; done) | (right; dsimp only; omega) | (left; dsimp only; omega)))) hb2
  have hd2 : Blk w2 w.heap.size [.slice none 0 0, .bool false, i6 0] := (HD.out.alloc _).below hb2
  have hI2 := own_le (base' := w.heap.size + 1) hI (by have := HD.out.lt; simp; omega)
  have HI := Lib.hid hI2
  have d0 := hd2.cell 0 rfl
  have d1 := hd2.cell 1 rfl
  have d2 := hd2.cell 2 rfl
  have f0 := hd2.froz 0 rfl
  have f1 := hd2.froz 1 rfl
  have f2 := hd2.froz 2 rfl
  have hlt := hd2.lt
  clear hI hI2 hq hb2
  go_wp2_with fail
  refine body_world (fun W => Below w.heap.size w W ∧ Blk W w.heap.size [.slice fa fm fc, .bool FF.1.2.1, i6 FF.1.2.2] ∧ OwnI W (w.heap.size + 1) (.slice fa fm fc) FF.1.1) ⟨by (repeat' (first | with_reducible exact Below.refl _ _ | with_reducible assumption | with_reducible refine q_alloc ?_ _ | with_reducible refine q_drew ?_ | with_reducible refine q_drewN _ ?_ | with_reducible refine q_setCell ?_ ?_ _ | (left; simp; done) | (right; simp; done) | (right; dsimp only; omega) | (left; dsimp only; omega))), (((hd2.set 0 _ (by simp) rfl).set 1 _ (by simp) rfl).set 2 _ (by simp) rfl).alloc _, (own_set (own_set (own_set HI.out (by omega)) (by omega)) (by omega)).alloc _⟩ ?_
  intro W9 ⟨hq9, b9, i9⟩
  clear d0 d1 d2 f0 f1 f2
  have d0 := b9.cell 0 rfl
  have d1 := b9.cell 1 rfl
  have d2 := b9.cell 2 rfl
  exact bodyPost_ret (v := .tuple #[.agg #[.slice fa fm fc, .bool FF.1.2.1, i6 FF.1.2.2], .bool true]) (by simp [results, Tryd.results9, go_sem, d0, d1, d2]) rfl ⟨_, rfl, own_le i9 (by omega), hq9⟩
set_option maxRecDepth 100000 in
set_option maxHeartbeats 2000000 in
theorem peve_out (n : Int) (w : World) (h : n < 1 ∨ 25 < n) : Calls Tryd.prog 11 #[i6 n] w (FormBack ([], false, 0) false w) := by
  have hz := eveT_out n h
  have HZ := Lib.hid hz
  clear hz h
  go_enter Tryd.func11, Tryd.ntmps11
  go_wp2_with fail
  refine (event_any n _).mono ?_
  rintro e w1 ⟨rfl, hb⟩
  rw [HZ.out]
  unfold zeroE
  have hq : Below w.heap.size w w1 := q_step (by (repeat' (first | with_reducible exact Below.refl _ _ | with_reducible assumption | with_reducible refine q_alloc ?_ _ | with_reducible refine q_drew ?_ | with_reducible refine q_drewN _ ?_ | with_reducible refine q_setCell ?_ ?_ _ | (left; simp; done) | (right; simp; done) | (right; dsimp only; omega) | (left; dsimp only; omega)))) hb
  have hd : Blk w1 w.heap.size [.slice none 0 0, .bool false, i6 0] := Blk.below (Blk.new rfl) hb
  have d0 := hd.cell 0 rfl
  have d1 := hd.cell 1 rfl
  have d2 := hd.cell 2 rfl
  have f0 := hd.froz 0 rfl
  have f1 := hd.froz 1 rfl
  have f2 := hd.froz 2 rfl
  have hlt := hd.lt
  go_wp2_with fail
  refine body_world (fun W => Below w.heap.size w W ∧ Blk W w.heap.size [.slice none 0 0, .bool false, i6 0]) ⟨by (repeat' (first | with_reducible exact Below.refl _ _ | with_reducible assumption | with_reducible refine q_alloc ?_ _ | with_reducible refine q_drew ?_ | with_reducible refine q_drewN _ ?_ | with_reducible refine q_setCell ?_ ?_ _ | (left; simp; done) | (right; simp; done) | (right; dsimp only; omega) | (left; dsimp only; omega))), (((hd.set 0 _ (by simp) rfl).set 1 _ (by simp) rfl).set 2 _ (by simp) rfl).alloc _⟩ ?_
  intro W9 ⟨hq9, b9⟩
  clear d0 d1 d2 f0 f1 f2
  have d0 := b9.cell 0 rfl
  have d1 := b9.cell 1 rfl
  have d2 := b9.cell 2 rfl
  exact bodyPost_ret (v := .tuple #[.agg #[.slice none 0 0, .bool false, i6 0], .bool false]) (by simp [results, Tryd.results11, go_sem, d0, d1, d2]) rfl (formBack_zero hq9)
set_option maxRecDepth 100000 in
set_option maxHeartbeats 4000000 in
theorem peve_in (n : Int) (en : E3) (w : World) (hen : eveT n = en) (h1 : en.1 ≠ []) (h2 : okS en.2.1 = true) (ht : RowAt 0 spaceC w) : Calls Tryd.prog 11 #[i6 n] w (FormBack (formF en.2.1).1 true w) := by
  have HE := Lib.hid hen
  have HT := Lib.hid ht
  have H2 := Lib.hid h2
  have e1 : (en.1 == []) = false := by simpa using h1
  have e1' : (en.1 == ([] : B8)) = false := e1
  clear hen ht h1 h2
  obtain ⟨FF, hFF⟩ : ∃ FF, formF en.2.1 = FF := ⟨_, rfl⟩
  rw [hFF]
  have HFF := Lib.hid hFF
  clear hFF
  go_enter Tryd.func11, Tryd.ntmps11
  go_wp2_with fail
  refine (event_any n _).mono ?_
  rintro e w1 ⟨rfl, hb⟩
  rw [HE.out]
  have hq : Below w.heap.size w w1 := q_step (by (repeat' (first | with_reducible exact Below.refl _ _ | with_reducible assumption | with_reducible refine q_alloc ?_ _ | with_reducible refine q_drew ?_ | with_reducible refine q_drewN _ ?_ | with_reducible refine q_setCell ?_ ?_ _ | (left; simp; done) | (right; simp; done) | (right; dsimp only; omega) | (left; dsimp only; omega)))) hb
  have hd : Blk w1 w.heap.size [.slice none 0 0, .bool false, i6 0] := Blk.below (Blk.new rfl) hb
  clear hb
  have HD := Lib.hid hd
  clear hd
  go_wp2_with fail
  refine (form_any en.2.1 _ H2.out ?_).mono ?_
  · exact HT.out.below (by (repeat' (first | with_reducible exact Below.refl _ _ | with_reducible assumption | with_reducible refine q_alloc ?_ _ | with_reducible refine q_drew ?_ | with_reducible refine q_drewN _ ?_ | with_reducible refine q_setCell ?_ ?_ _ | (left; simp; done) | (right; simp; done) | (right; dsimp only; omega) | (left; dsimp only; omega))))
  rintro e w2 ⟨fv, nv, rfl, hI, _, hb2⟩
  rw [HFF.out] at hI ⊢
  obtain ⟨fa, fm, fc, rfl⟩ := own_slice hI
  have hq2 : Below w.heap.size w w2 := q_step (by (repeat' (first | with_reducible exact Below.refl _ _ | with_reducible assumption | with_reducible refine q_alloc ?_ _ | with_reducible refine q_drew ?_ | with_reducible refine q_drewN _ ?_ | with_reducible refine q_setCell ?_ ?_ _ | (left; simp; done) | (right; simp; done) | (right; dsimp only; omega) | (left; dsimp only; omega)))) hb2
  have hd2 : Blk w2 w.heap.size [.slice none 0 0, .bool false, i6 0] := (HD.out.alloc _).below hb2
  have hI2 := own_le (base' := w.heap.size + 1) hI (by have := HD.out.lt; simp; omega)
  have HI := Lib.hid hI2
  have d0 := hd2.cell 0 rfl
  have d1 := hd2.cell 1 rfl
  have d2 := hd2.cell 2 rfl
  have f0 := hd2.froz 0 rfl
  have f1 := hd2.froz 1 rfl
  have f2 := hd2.froz 2 rfl
  have hlt := hd2.lt
  clear hI hI2 hq hb2
  go_wp2_with fail
  refine body_world (fun W => Below w.heap.size w W ∧ Blk W w.heap.size [.slice fa fm fc, .bool FF.1.2.1, i6 FF.1.2.2] ∧ OwnI W (w.heap.size + 1) (.slice fa fm fc) FF.1.1) ⟨by (repeat' (first | with_reducible exact Below.refl _ _ | with_reducible assumption | with_reducible refine q_alloc ?_ _ | with_reducible refine q_drew ?_ | with_reducible refine q_drewN _ ?_ | with_reducible refine q_setCell ?_ ?_ _ | (left; simp; done) | (right; simp; done) | (right; dsimp only; omega) | (left; dsimp only; omega))), (((hd2.set 0 _ (by simp) rfl).set 1 _ (by simp) rfl).set 2 _ (by simp) rfl).alloc _, (own_set (own_set (own_set HI.out (by omega)) (by omega)) (by omega)).alloc _⟩ ?_
  intro W9 ⟨hq9, b9, i9⟩
  clear d0 d1 d2 f0 f1 f2
  have d0 := b9.cell 0 rfl
  have d1 := b9.cell 1 rfl
  have d2 := b9.cell 2 rfl
  exact bodyPost_ret (v := .tuple #[.agg #[.slice fa fm fc, .bool FF.1.2.1, i6 FF.1.2.2], .bool true]) (by simp [results, Tryd.results11, go_sem, d0, d1, d2]) rfl ⟨_, rfl, own_le i9 (by omega), hq9⟩
set_option maxRecDepth 100000 in
set_option maxHeartbeats 2000000 in
theorem prep_out (n : Int) (w : World) (h : n < 1 ∨ 58 < n) : Calls Tryd.prog 10 #[i6 n] w (FormBack ([], false, 0) false w) := by
  have hz := reqT_out n h
  have HZ := Lib.hid hz
  clear hz h
  go_enter Tryd.func10, Tryd.ntmps10
  go_wp2_with fail
  refine (request_any n _).mono ?_
  rintro e w1 ⟨rfl, hb⟩
  rw [HZ.out]
  unfold zeroE
  have hq : Below w.heap.size w w1 := q_step (by (repeat' (first | with_reducible exact Below.refl _ _ | with_reducible assumption | with_reducible refine q_alloc ?_ _ | with_reducible refine q_drew ?_ | with_reducible refine q_drewN _ ?_ | with_reducible refine q_setCell ?_ ?_ _ | (left; simp; done) | (right; simp; done) | (right; dsimp only; omega) | (left; dsimp only; omega)))) hb
  have hd : Blk w1 w.heap.size [.slice none 0 0, .bool false, i6 0] := Blk.below (Blk.new rfl) hb
  have d0 := hd.cell 0 rfl
  have d1 := hd.cell 1 rfl
  have d2 := hd.cell 2 rfl
  have f0 := hd.froz 0 rfl
  have f1 := hd.froz 1 rfl
  have f2 := hd.froz 2 rfl
  have hlt := hd.lt
  go_wp2_with fail
  refine body_world (fun W => Below w.heap.size w W ∧ Blk W w.heap.size [.slice none 0 0, .bool false, i6 0]) ⟨by (repeat' (first | with_reducible exact Below.refl _ _ | with_reducible assumption | with_reducible refine q_alloc ?_ _ | with_reducible refine q_drew ?_ | with_reducible refine q_drewN _ ?_ | with_reducible refine q_setCell ?_ ?_ _ | (left; simp; done) | (right; simp; done) | (right; dsimp only; omega) | (left; dsimp only; omega))), (((hd.set 0 _ (by simp) rfl).set 1 _ (by simp) rfl).set 2 _ (by simp) rfl).alloc _⟩ ?_
  intro W9 ⟨hq9, b9⟩
  clear d0 d1 d2 f0 f1 f2
  have d0 := b9.cell 0 rfl
  have d1 := b9.cell 1 rfl
  have d2 := b9.cell 2 rfl
  exact bodyPost_ret (v := .tuple #[.agg #[.slice none 0 0, .bool false, i6 0], .bool false]) (by simp [results, Tryd.results10, go_sem, d0, d1, d2]) rfl (formBack_zero hq9)
set_option maxRecDepth 100000 in
set_option maxHeartbeats 4000000 in
theorem prep_in (n : Int) (en : E3) (w : World) (hen : reqT n = en) (h1 : en.1 ≠ []) (h2 : okS en.2.2 = true) (hr : (en.2.2 == [45]) = false) (ht : RowAt 0 spaceC w) : Calls Tryd.prog 10 #[i6 n] w (FormBack (formF en.2.2).1 true w) := by
  have HE := Lib.hid hen
  have HT := Lib.hid ht
  have H2 := Lib.hid h2
  have e1 : (en.1 == []) = false := by simpa using h1
  have e1' : (en.1 == ([] : B8)) = false := e1
  clear hen ht h1 h2
  obtain ⟨FF, hFF⟩ : ∃ FF, formF en.2.2 = FF := ⟨_, rfl⟩
  rw [hFF]
  have HFF := Lib.hid hFF
  clear hFF
  go_enter Tryd.func10, Tryd.ntmps10
  go_wp2_with fail
  refine (request_any n _).mono ?_
  rintro e w1 ⟨rfl, hb⟩
  rw [HE.out]
  have hq : Below w.heap.size w w1 := q_step (by (repeat' (first | with_reducible exact Below.refl _ _ | with_reducible assumption | with_reducible refine q_alloc ?_ _ | with_reducible refine q_drew ?_ | with_reducible refine q_drewN _ ?_ | with_reducible refine q_setCell ?_ ?_ _ | (left; simp; done) | (right; simp; done) | (right; dsimp only; omega) | (left; dsimp only; omega)))) hb
  have hd : Blk w1 w.heap.size [.slice none 0 0, .bool false, i6 0] := Blk.below (Blk.new rfl) hb
  clear hb
  have HD := Lib.hid hd
  clear hd
  go_wp2_with fail
  refine (form_any en.2.2 _ H2.out ?_).mono ?_
  · exact HT.out.below (by (repeat' (first | with_reducible exact Below.refl _ _ | with_reducible assumption | with_reducible refine q_alloc ?_ _ | with_reducible refine q_drew ?_ | with_reducible refine q_drewN _ ?_ | with_reducible refine q_setCell ?_ ?_ _ | (left; simp; done) | (right; simp; done) | (right; dsimp only; omega) | (left; dsimp only; omega))))
  rintro e w2 ⟨fv, nv, rfl, hI, _, hb2⟩
  rw [HFF.out] at hI ⊢
  obtain ⟨fa, fm, fc, rfl⟩ := own_slice hI
  have hq2 : Below w.heap.size w w2 := q_step (by (repeat' (first | with_reducible exact Below.refl _ _ | with_reducible assumption | with_reducible refine q_alloc ?_ _ | with_reducible refine q_drew ?_ | with_reducible refine q_drewN _ ?_ | with_reducible refine q_setCell ?_ ?_ _ | (left; simp; done) | (right; simp; done) | (right; dsimp only; omega) | (left; dsimp only; omega)))) hb2
  have hd2 : Blk w2 w.heap.size [.slice none 0 0, .bool false, i6 0] := (HD.out.alloc _).below hb2
  have hI2 := own_le (base' := w.heap.size + 1) hI (by have := HD.out.lt; simp; omega)
  have HI := Lib.hid hI2
  have d0 := hd2.cell 0 rfl
  have d1 := hd2.cell 1 rfl
  have d2 := hd2.cell 2 rfl
  have f0 := hd2.froz 0 rfl
  have f1 := hd2.froz 1 rfl
  have f2 := hd2.froz 2 rfl
  have hlt := hd2.lt
  clear hI hI2 hq hb2
  go_wp2_with fail
  refine body_world (fun W => Below w.heap.size w W ∧ Blk W w.heap.size [.slice fa fm fc, .bool FF.1.2.1, i6 FF.1.2.2] ∧ OwnI W (w.heap.size + 1) (.slice fa fm fc) FF.1.1) ⟨by (repeat' (first | with_reducible exact Below.refl _ _ | with_reducible assumption | with_reducible refine q_alloc ?_ _ | with_reducible refine q_drew ?_ | with_reducible refine q_drewN _ ?_ | with_reducible refine q_setCell ?_ ?_ _ | (left; simp; done) | (right; simp; done) | (right; dsimp only; omega) | (left; dsimp only; omega))), (((hd2.set 0 _ (by simp) rfl).set 1 _ (by simp) rfl).set 2 _ (by simp) rfl).alloc _, (own_set (own_set (own_set HI.out (by omega)) (by omega)) (by omega)).alloc _⟩ ?_
  intro W9 ⟨hq9, b9, i9⟩
  clear d0 d1 d2 f0 f1 f2
  have d0 := b9.cell 0 rfl
  have d1 := b9.cell 1 rfl
  have d2 := b9.cell 2 rfl
  exact bodyPost_ret (v := .tuple #[.agg #[.slice fa fm fc, .bool FF.1.2.1, i6 FF.1.2.2], .bool true]) (by simp [results, Tryd.results10, go_sem, d0, d1, d2]) rfl ⟨_, rfl, own_le i9 (by omega), hq9⟩
set_option maxRecDepth 100000 in
set_option maxHeartbeats 2000000 in
theorem prep_none (n : Int) (en : E3) (w : World) (hen : reqT n = en) (h1 : en.1 ≠ []) (h2 : en.2.2 = [45]) : Calls Tryd.prog 10 #[i6 n] w (FormBack ([], false, 0) false w) := by
  have HZ := Lib.hid hen
  have e1 : (en.1 == []) = false := by simpa using h1
  have e2 : (en.2.2 == [45]) = true := by simpa using h2
  clear hen h1 h2
  go_enter Tryd.func10, Tryd.ntmps10
  go_wp2_with fail
  refine (request_any n _).mono ?_
  rintro e w1 ⟨rfl, hb⟩
  rw [HZ.out]
  have hq : Below w.heap.size w w1 := q_step (by (repeat' (first | with_reducible exact Below.refl _ _ | with_reducible assumption | with_reducible refine q_alloc ?_ _ | with_reducible refine q_drew ?_ | with_reducible refine q_drewN _ ?_ | with_reducible refine q_setCell ?_ ?_ _ | (left; simp; done) | (right; simp; done) | (right; dsimp only; omega) | (left; dsimp only; omega)))) hb
  have hd : Blk w1 w.heap.size [.slice none 0 0, .bool false, i6 0] := Blk.below (Blk.new rfl) hb
  have d0 := hd.cell 0 rfl
  have d1 := hd.cell 1 rfl
  have d2 := hd.cell 2 rfl
  have f0 := hd.froz 0 rfl
  have f1 := hd.froz 1 rfl
  have f2 := hd.froz 2 rfl
  have hlt := hd.lt
  go_wp2_with fail
  refine body_world (fun W => Below w.heap.size w W ∧ Blk W w.heap.size [.slice none 0 0, .bool false, i6 0]) ⟨by (repeat' (first | with_reducible exact Below.refl _ _ | with_reducible assumption | with_reducible refine q_alloc ?_ _ | with_reducible refine q_drew ?_ | with_reducible refine q_drewN _ ?_ | with_reducible refine q_setCell ?_ ?_ _ | (left; simp; done) | (right; simp; done) | (right; dsimp only; omega) | (left; dsimp only; omega))), (((hd.set 0 _ (by simp) rfl).set 1 _ (by simp) rfl).set 2 _ (by simp) rfl).alloc _⟩ ?_
  intro W9 ⟨hq9, b9⟩
  clear d0 d1 d2 f0 f1 f2
  have d0 := b9.cell 0 rfl
  have d1 := b9.cell 1 rfl
  have d2 := b9.cell 2 rfl
  exact bodyPost_ret (v := .tuple #[.agg #[.slice none 0 0, .bool false, i6 0], .bool false]) (by simp [results, Tryd.results10, go_sem, d0, d1, d2]) rfl (formBack_zero hq9)
end Go.Proofs.YtbffnobchjiaeaaDoor
