/- Layer 9: the contract of Intern. -/
import Derived.Test.YtdkdpjlkjamemaaDoorAtom6
namespace Go.Proofs.YtdkdpjlkjamemaaDoor
open Go Go.RowKit Go.Maps
set_option linter.unusedSimpArgs false
set_option linter.unusedVariables false

theorem Blk.set2 {w : World} {b : Nat} {u0 u1 v0 v1 : Value} (h : Blk w b [u0, u1]) : Blk ((w.setCell ⟨b, 0, none⟩ v0).setCell ⟨b, 1, none⟩ v1) b [v0, v1] :=
  (h.set 0 v0 (by simp) rfl).set 1 v1 (by simp) rfl
theorem set2_q {a w : World} {b : Nat} {v0 v1 : Value} (h : Below a.heap.size a w) (hb : a.heap.size ≤ b) : Below a.heap.size a ((w.setCell ⟨b, 0, none⟩ v0).setCell ⟨b, 1, none⟩ v1) :=
  q_setCell (q_setCell h (Or.inr hb) _) (Or.inr hb) _
/-- What Intern tells. -/
def internL (more : List B) (s : B) (only : Bool) : List B × Int × Int :=
  if nameB s = false then (more, 0, 11) else if numT more s ≠ 0 then (more, (numT more s : Int), 0) else if only then (more, 0, 0)
  else if 1024 ≤ 10 + more.length then (more, 0, 12) else (more ++ [s], ((11 + more.length : Nat) : Int), 0)

set_option maxRecDepth 100000 in
set_option maxHeartbeats 4000000 in
theorem intern_bad (a : Option Addr) (n cap : Nat) (m : Option Nat) (more : List B) (s : B) (only : Bool) (w : World) (hs : RowAt 0 knownCells w) (hsl : s.length ≤ 100000) (hml : more.length ≤ 100000) (hn : n = more.length) (hT : TabOf w (.slice a n cap) (.map m) more) (hnb : nameB s = false) :
    Calls Tryd.prog 12 #[.agg #[.slice a n cap, .map m], strV s, .bool only] w fun e w' => e = .returned (.tuple #[.agg #[.slice a n cap, .map m], u3 0, i6 11]) ∧ Below w.heap.size w w' := by
  have HS := Lib.hid hs
  have HT := Lib.hid hT
  have hn5 : n ≤ 100000 := by omega
  have HNB := Lib.hid hnb
  clear hn hs hT hnb
  go_enter Tryd.func12, Tryd.ntmps12
  go_wp2_with fail
  refine calls_world (fun W => Below w.heap.size w W ∧ Blk W (w.heap.size) [.slice a n cap, .map m] ∧ Blk W (w.heap.size + 1) [.slice none 0 0, .map none]) ⟨by (repeat' (first | with_reducible exact Below.refl _ _ | with_reducible assumption | with_reducible refine q_alloc ?_ _ | with_reducible refine q_drew ?_ | with_reducible refine q_drewN _ ?_ | with_reducible refine q_setCell ?_ ?_ _ | (left; simp; done) | (right; simp; done) | (right; dsimp only; omega) | (left; dsimp only; omega))), (Blk.new rfl).alloc _, blk_new1 rfl⟩ ?_
  intro W1 ⟨hq1, b1_0, b1_1⟩
  refine (isName_any s _).mono ?_
  rintro e w2 ⟨rfl, rfl⟩
  rw [HNB.out]
  have b1_0c0 := b1_0.cell 0 rfl
  have b1_0f0 := b1_0.froz 0 rfl
  have b1_0c1 := b1_0.cell 1 rfl
  have b1_0f1 := b1_0.froz 1 rfl
  have b1_0z := b1_0.lt
  have b1_1c0 := b1_1.cell 0 rfl
  have b1_1f0 := b1_1.froz 0 rfl
  have b1_1c1 := b1_1.cell 1 rfl
  have b1_1f1 := b1_1.froz 1 rfl
  have b1_1z := b1_1.lt
  go_wp2_with fail
  refine body_world (fun W => Below w.heap.size w W ∧ Blk W (w.heap.size + 1) [.slice a n cap, .map m]) ⟨set2_q hq1 (by omega), b1_1.set2⟩ ?_
  intro W9 ⟨hq9, k9⟩
  have c90 := k9.cell 0 rfl
  have c91 := k9.cell 1 rfl
  exact bodyPost_ret (v := .tuple #[.agg #[.slice a n cap, .map m], u3 0, i6 11]) (by simp [results, Tryd.results12, go_sem, c90, c91]) rfl ⟨rfl, hq9⟩

set_option maxRecDepth 100000 in
set_option maxHeartbeats 4000000 in
theorem intern_found (a : Option Addr) (n cap : Nat) (m : Option Nat) (more : List B) (s : B) (only : Bool) (w : World) (hs : RowAt 0 knownCells w) (hsl : s.length ≤ 100000) (hml : more.length ≤ 100000) (hn : n = more.length) (hT : TabOf w (.slice a n cap) (.map m) more) (g : Nat) (hnb : nameB s = true) (hg : numT more s = g) (hg0 : g ≠ 0) :
    Calls Tryd.prog 12 #[.agg #[.slice a n cap, .map m], strV s, .bool only] w fun e w' => e = .returned (.tuple #[.agg #[.slice a n cap, .map m], u3 (g : Int), i6 0]) ∧ Below w.heap.size w w' := by
  have HS := Lib.hid hs
  have HT := Lib.hid hT
  have hn5 : n ≤ 100000 := by omega
  have HNB := Lib.hid hnb
  have HG := Lib.hid hg
  have hg1 : ¬ (g : Int) = 0 := by omega
  clear hn hs hT hnb hg hg0
  go_enter Tryd.func12, Tryd.ntmps12
  go_wp2_with fail
  refine calls_world (fun W => Below w.heap.size w W ∧ Blk W (w.heap.size) [.slice a n cap, .map m] ∧ Blk W (w.heap.size + 1) [.slice none 0 0, .map none]) ⟨by (repeat' (first | with_reducible exact Below.refl _ _ | with_reducible assumption | with_reducible refine q_alloc ?_ _ | with_reducible refine q_drew ?_ | with_reducible refine q_drewN _ ?_ | with_reducible refine q_setCell ?_ ?_ _ | (left; simp; done) | (right; simp; done) | (right; dsimp only; omega) | (left; dsimp only; omega))), (Blk.new rfl).alloc _, blk_new1 rfl⟩ ?_
  intro W1 ⟨hq1, b1_0, b1_1⟩
  refine (isName_any s _).mono ?_
  rintro e w2 ⟨rfl, rfl⟩
  rw [HNB.out]
  have b1_0c0 := b1_0.cell 0 rfl
  have b1_0f0 := b1_0.froz 0 rfl
  have b1_0c1 := b1_0.cell 1 rfl
  have b1_0f1 := b1_0.froz 1 rfl
  have b1_0z := b1_0.lt
  have b1_1c0 := b1_1.cell 0 rfl
  have b1_1f0 := b1_1.froz 0 rfl
  have b1_1c1 := b1_1.cell 1 rfl
  have b1_1f1 := b1_1.froz 1 rfl
  have b1_1z := b1_1.lt
  go_wp2_with fail
  clear b1_0c0 b1_0f0 b1_0c1 b1_0f1 b1_0z b1_1c0 b1_1f0 b1_1c1 b1_1f1 b1_1z
  refine (find_any (.slice a n cap) (.map m) more s _ (HS.out.below hq1) hsl hml (HT.out.below hq1)).mono ?_
  rintro e w2 ⟨rfl, hb⟩
  have hq2 : Below w.heap.size w w2 := q_step hq1 hb
  have b2_0 := b1_0.below hb
  have b2_1 := b1_1.below hb
  clear hb b1_0 b1_1 hq1
  have b2_0c0 := b2_0.cell 0 rfl
  have b2_0f0 := b2_0.froz 0 rfl
  have b2_0c1 := b2_0.cell 1 rfl
  have b2_0f1 := b2_0.froz 1 rfl
  have b2_0z := b2_0.lt
  have b2_1c0 := b2_1.cell 0 rfl
  have b2_1f0 := b2_1.froz 0 rfl
  have b2_1c1 := b2_1.cell 1 rfl
  have b2_1f1 := b2_1.froz 1 rfl
  have b2_1z := b2_1.lt
  rw [HG.out]
  go_wp2_with fail
  refine body_world (fun W => Below w.heap.size w W ∧ Blk W (w.heap.size + 1) [.slice a n cap, .map m]) ⟨set2_q hq2 (by omega), b2_1.set2⟩ ?_
  intro W9 ⟨hq9, k9⟩
  have c90 := k9.cell 0 rfl
  have c91 := k9.cell 1 rfl
  exact bodyPost_ret (v := .tuple #[.agg #[.slice a n cap, .map m], u3 (g : Int), i6 0]) (by simp [results, Tryd.results12, go_sem, c90, c91]) rfl ⟨rfl, hq9⟩

set_option maxRecDepth 100000 in
set_option maxHeartbeats 4000000 in
theorem intern_only (a : Option Addr) (n cap : Nat) (m : Option Nat) (more : List B) (s : B) (only : Bool) (w : World) (hs : RowAt 0 knownCells w) (hsl : s.length ≤ 100000) (hml : more.length ≤ 100000) (hn : n = more.length) (hT : TabOf w (.slice a n cap) (.map m) more) (hnb : nameB s = true) (hg : numT more s = 0) (ho : only = true) :
    Calls Tryd.prog 12 #[.agg #[.slice a n cap, .map m], strV s, .bool only] w fun e w' => e = .returned (.tuple #[.agg #[.slice a n cap, .map m], u3 0, i6 0]) ∧ Below w.heap.size w w' := by
  have HS := Lib.hid hs
  have HT := Lib.hid hT
  have hn5 : n ≤ 100000 := by omega
  have HNB := Lib.hid hnb
  have HG := Lib.hid hg
  subst ho
  clear hn hs hT hnb hg
  go_enter Tryd.func12, Tryd.ntmps12
  go_wp2_with fail
  refine calls_world (fun W => Below w.heap.size w W ∧ Blk W (w.heap.size) [.slice a n cap, .map m] ∧ Blk W (w.heap.size + 1) [.slice none 0 0, .map none]) ⟨by (repeat' (first | with_reducible exact Below.refl _ _ | with_reducible assumption | with_reducible refine q_alloc ?_ _ | with_reducible refine q_drew ?_ | with_reducible refine q_drewN _ ?_ | with_reducible refine q_setCell ?_ ?_ _ | (left; simp; done) | (right; simp; done) | (right; dsimp only; omega) | (left; dsimp only; omega))), (Blk.new rfl).alloc _, blk_new1 rfl⟩ ?_
  intro W1 ⟨hq1, b1_0, b1_1⟩
  refine (isName_any s _).mono ?_
  rintro e w2 ⟨rfl, rfl⟩
  rw [HNB.out]
  have b1_0c0 := b1_0.cell 0 rfl
  have b1_0f0 := b1_0.froz 0 rfl
  have b1_0c1 := b1_0.cell 1 rfl
  have b1_0f1 := b1_0.froz 1 rfl
  have b1_0z := b1_0.lt
  have b1_1c0 := b1_1.cell 0 rfl
  have b1_1f0 := b1_1.froz 0 rfl
  have b1_1c1 := b1_1.cell 1 rfl
  have b1_1f1 := b1_1.froz 1 rfl
  have b1_1z := b1_1.lt
  go_wp2_with fail
  clear b1_0c0 b1_0f0 b1_0c1 b1_0f1 b1_0z b1_1c0 b1_1f0 b1_1c1 b1_1f1 b1_1z
  refine (find_any (.slice a n cap) (.map m) more s _ (HS.out.below hq1) hsl hml (HT.out.below hq1)).mono ?_
  rintro e w2 ⟨rfl, hb⟩
  have hq2 : Below w.heap.size w w2 := q_step hq1 hb
  have b2_0 := b1_0.below hb
  have b2_1 := b1_1.below hb
  clear hb b1_0 b1_1 hq1
  have b2_0c0 := b2_0.cell 0 rfl
  have b2_0f0 := b2_0.froz 0 rfl
  have b2_0c1 := b2_0.cell 1 rfl
  have b2_0f1 := b2_0.froz 1 rfl
  have b2_0z := b2_0.lt
  have b2_1c0 := b2_1.cell 0 rfl
  have b2_1f0 := b2_1.froz 0 rfl
  have b2_1c1 := b2_1.cell 1 rfl
  have b2_1f1 := b2_1.froz 1 rfl
  have b2_1z := b2_1.lt
  rw [HG.out]
  go_wp2_with fail
  refine body_world (fun W => Below w.heap.size w W ∧ Blk W (w.heap.size + 1) [.slice a n cap, .map m]) ⟨set2_q hq2 (by omega), b2_1.set2⟩ ?_
  intro W9 ⟨hq9, k9⟩
  have c90 := k9.cell 0 rfl
  have c91 := k9.cell 1 rfl
  exact bodyPost_ret (v := .tuple #[.agg #[.slice a n cap, .map m], u3 0, i6 0]) (by simp [results, Tryd.results12, go_sem, c90, c91]) rfl ⟨rfl, hq9⟩

set_option maxRecDepth 100000 in
set_option maxHeartbeats 4000000 in
theorem intern_full (a : Option Addr) (n cap : Nat) (m : Option Nat) (more : List B) (s : B) (only : Bool) (w : World) (hs : RowAt 0 knownCells w) (hsl : s.length ≤ 100000) (hml : more.length ≤ 100000) (hn : n = more.length) (hT : TabOf w (.slice a n cap) (.map m) more) (hnb : nameB s = true) (hg : numT more s = 0) (ho : only = false) (hf : 1024 ≤ 10 + more.length) :
    Calls Tryd.prog 12 #[.agg #[.slice a n cap, .map m], strV s, .bool only] w fun e w' => e = .returned (.tuple #[.agg #[.slice a n cap, .map m], u3 0, i6 12]) ∧ Below w.heap.size w w' := by
  have HS := Lib.hid hs
  have HT := Lib.hid hT
  have hn5 : n ≤ 100000 := by omega
  have HNB := Lib.hid hnb
  have HG := Lib.hid hg
  subst ho
  have hN : (1024 : Int) ≤ ((10 + n : Nat) : Int) := by omega
  clear hn hs hT hnb hg
  go_enter Tryd.func12, Tryd.ntmps12
  go_wp2_with fail
  refine calls_world (fun W => Below w.heap.size w W ∧ Blk W (w.heap.size) [.slice a n cap, .map m] ∧ Blk W (w.heap.size + 1) [.slice none 0 0, .map none]) ⟨by (repeat' (first | with_reducible exact Below.refl _ _ | with_reducible assumption | with_reducible refine q_alloc ?_ _ | with_reducible refine q_drew ?_ | with_reducible refine q_drewN _ ?_ | with_reducible refine q_setCell ?_ ?_ _ | (left; simp; done) | (right; simp; done) | (right; dsimp only; omega) | (left; dsimp only; omega))), (Blk.new rfl).alloc _, blk_new1 rfl⟩ ?_
  intro W1 ⟨hq1, b1_0, b1_1⟩
  refine (isName_any s _).mono ?_
  rintro e w2 ⟨rfl, rfl⟩
  rw [HNB.out]
  have b1_0c0 := b1_0.cell 0 rfl
  have b1_0f0 := b1_0.froz 0 rfl
  have b1_0c1 := b1_0.cell 1 rfl
  have b1_0f1 := b1_0.froz 1 rfl
  have b1_0z := b1_0.lt
  have b1_1c0 := b1_1.cell 0 rfl
  have b1_1f0 := b1_1.froz 0 rfl
  have b1_1c1 := b1_1.cell 1 rfl
  have b1_1f1 := b1_1.froz 1 rfl
  have b1_1z := b1_1.lt
  go_wp2_with fail
  clear b1_0c0 b1_0f0 b1_0c1 b1_0f1 b1_0z b1_1c0 b1_1f0 b1_1c1 b1_1f1 b1_1z
  refine (find_any (.slice a n cap) (.map m) more s _ (HS.out.below hq1) hsl hml (HT.out.below hq1)).mono ?_
  rintro e w2 ⟨rfl, hb⟩
  have hq2 : Below w.heap.size w w2 := q_step hq1 hb
  have b2_0 := b1_0.below hb
  have b2_1 := b1_1.below hb
  clear hb b1_0 b1_1 hq1
  have b2_0c0 := b2_0.cell 0 rfl
  have b2_0f0 := b2_0.froz 0 rfl
  have b2_0c1 := b2_0.cell 1 rfl
  have b2_0f1 := b2_0.froz 1 rfl
  have b2_0z := b2_0.lt
  have b2_1c0 := b2_1.cell 0 rfl
  have b2_1f0 := b2_1.froz 0 rfl
  have b2_1c1 := b2_1.cell 1 rfl
  have b2_1f1 := b2_1.froz 1 rfl
  have b2_1z := b2_1.lt
  rw [HG.out]
  go_wp2_with fail
  clear b2_0c0 b2_0f0 b2_0c1 b2_0f1 b2_0z b2_1c0 b2_1f0 b2_1c1 b2_1f1 b2_1z
  refine (len_any a n cap (.map m) _ (by omega)).mono ?_
  rintro e w3 ⟨rfl, hb⟩
  have hq3 : Below w.heap.size w w3 := q_step hq2 hb
  have b3_0 := b2_0.below hb
  have b3_1 := b2_1.below hb
  clear hb b2_0 b2_1 hq2
  have b3_0c0 := b3_0.cell 0 rfl
  have b3_0f0 := b3_0.froz 0 rfl
  have b3_0c1 := b3_0.cell 1 rfl
  have b3_0f1 := b3_0.froz 1 rfl
  have b3_0z := b3_0.lt
  have b3_1c0 := b3_1.cell 0 rfl
  have b3_1f0 := b3_1.froz 0 rfl
  have b3_1c1 := b3_1.cell 1 rfl
  have b3_1f1 := b3_1.froz 1 rfl
  have b3_1z := b3_1.lt
  generalize ((10 + n : Nat) : Int) = N at hN ⊢
  go_wp2_with fail
  refine body_world (fun W => Below w.heap.size w W ∧ Blk W (w.heap.size + 1) [.slice a n cap, .map m]) ⟨set2_q hq3 (by omega), b3_1.set2⟩ ?_
  intro W9 ⟨hq9, k9⟩
  have c90 := k9.cell 0 rfl
  have c91 := k9.cell 1 rfl
  exact bodyPost_ret (v := .tuple #[.agg #[.slice a n cap, .map m], u3 0, i6 12]) (by simp [results, Tryd.results12, go_sem, c90, c91]) rfl ⟨rfl, hq9⟩
end Go.Proofs.YtdkdpjlkjamemaaDoor
