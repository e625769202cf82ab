/- Layer 38: the document's example; PassiveMeets' walk. -/
import Derived.Test.YtmcndiljldbkcaaPs8
namespace Go.Proofs.Ytmcndiljldbkcaa
open Go Go.RowKit
set_option linter.unusedSimpArgs false
set_option linter.unusedVariables false
def ga : G := ⟨1, 7, true, 1, 4, false, 0, 0, 0⟩
def gb : G := ⟨2, 7, true, 0, 4, false, 0, 0, 0⟩
def gc : G := ⟨2, 7, true, 0, 5, false, 0, 0, 0⟩
theorem ga_ok : RightG ga := ⟨by decide, by decide, by decide, Or.inr (by decide), by decide, Or.inl rfl, Or.inl rfl⟩
theorem gb_ok : RightG gb := ⟨by decide, by decide, by decide, Or.inr (by decide), by decide, Or.inl rfl, Or.inl rfl⟩
theorem gc_ok : RightG gc := ⟨by decide, by decide, by decide, Or.inr (by decide), by decide, Or.inl rfl, Or.inl rfl⟩
theorem hit_gc {k : Nat} {x : G} (h : [ga, gc][k]? = some x) (hp : actB 7 true 1 5 x = true) : x = gc := by
  match k, h with
  | 0, h => simp at h; subst h; exact absurd hp (by decide)
  | 1, h => simp at h; exact h.symm
  | k + 2, h => simp at h
set_option maxRecDepth 100000 in
set_option maxHeartbeats 8000000 in
theorem awake38 (w : World) : Calls Try.prog 11 #[] w fun e w' => e = .returned (.bool true) ∧ Below w.heap.size w w' := by
  go_enter Try.func11, Try.ntmps11
  go_wp2_with fail
  refine (add_new ga ga_ok (.slice none 0 0) [] _ (Or.inl ⟨rfl, rfl⟩) (by decide) rfl rfl).mono ?_
  rintro e w1 ⟨v1, rfl, ho, hb⟩
  obtain ⟨a1, c1, rfl⟩ := own_sl ho
  have hq1 : Below w.heap.size w w1 := q_step (by (repeat' (first | with_reducible exact Below.refl _ _ | with_reducible assumption | with_reducible refine q_alloc ?_ _ | with_reducible refine q_drew ?_ | with_reducible refine q_drewN _ ?_ | with_reducible refine q_setCell ?_ ?_ _ | (left; simp; done) | (right; simp; done) | (right; dsimp only; omega) | (left; dsimp only; omega)))) hb
  have hd := (Blk.new (w := w) (cs := #[.slice none 0 0]) (t := 27) rfl).below hb
  have d0 := hd.cell 0 rfl
  have f0 := hd.froz 0 rfl
  have hlt := hd.lt
  have HO := Lib.hid ho
  have HD := Lib.hid hd
  clear hb ho hd
  go_wp2_with fail
  refine calls_world (fun W => Below w.heap.size w W ∧ Blk W w.heap.size [.slice a1 1 c1] ∧ TabG W (.slice a1 1 c1) [ga]) ⟨by (repeat' (first | with_reducible exact Below.refl _ _ | with_reducible assumption | with_reducible refine q_alloc ?_ _ | with_reducible refine q_drew ?_ | with_reducible refine q_drewN _ ?_ | with_reducible refine q_setCell ?_ ?_ _ | (left; simp; done) | (right; simp; done) | (right; dsimp only; omega) | (left; dsimp only; omega))), HD.out.set 0 _ (by simp) rfl, tabG_own (own_set HO.out (by simp)) (by simp)⟩ ?_
  intro W2 ⟨hq2, b2, t2⟩
  clear d0 f0 hq1 HO HD
  refine (add_conf gb gb_ok (.slice a1 1 c1) [ga] _ t2 (by decide) (by decide)).mono ?_
  rintro e w3 ⟨rfl, hb⟩
  have hq3 := q_step hq2 hb
  have B3 := Lib.hid (b2.below hb)
  have T3 := Lib.hid (t2.below hb)
  have hlt3 := B3.out.lt
  clear b2 t2 hb hq2
  have d0 := (B3.out.alloc (.cells #[.slice a1 1 c1] 27)).cell 0 rfl
  go_wp2_with fail
  refine (add_new gc gc_ok (.slice a1 1 c1) [ga] _ (T3.out.below (by (repeat' (first | with_reducible exact Below.refl _ _ | with_reducible assumption | with_reducible refine q_alloc ?_ _ | with_reducible refine q_drew ?_ | with_reducible refine q_drewN _ ?_ | with_reducible refine q_setCell ?_ ?_ _ | (left; simp; done) | (right; simp; done) | (right; dsimp only; omega) | (left; dsimp only; omega))))) (by decide) (by decide) (by decide)).mono ?_
  rintro e w4 ⟨v4, rfl, ho, hb⟩
  obtain ⟨a4, c4, rfl⟩ := own_sl ho
  have hq4 : Below w.heap.size w w4 := q_step (q_alloc hq3 _) hb
  have hd := (B3.out.alloc (.cells #[.slice a1 1 c1] 27)).below hb
  clear d0
  have d0 := hd.cell 0 rfl
  have f0 := hd.froz 0 rfl
  have hlt4 := hd.lt
  have HO := Lib.hid (own_le (base' := w.heap.size + 1) ho (by have := hlt3; simp; omega))
  have HD := Lib.hid hd
  clear hb ho hd B3 T3
  go_wp2_with fail
  refine calls_world (fun W => Below w.heap.size w W ∧ TabG W (.slice a4 2 c4) [ga, gc] ∧ W.cell? ⟨w4.heap.size, 0, none⟩ = some (u3 7)) ⟨by (repeat' (first | with_reducible exact Below.refl _ _ | with_reducible assumption | with_reducible refine q_alloc ?_ _ | with_reducible refine q_drew ?_ | with_reducible refine q_drewN _ ?_ | with_reducible refine q_setCell ?_ ?_ _ | (left; simp; done) | (right; simp; done) | (right; dsimp only; omega) | (left; dsimp only; omega))), ?_, ?_⟩ ?_
  · exact (tabG_own (own_set HO.out (by omega)) (by simp)).below ((Below.refl _ _).alloc (Nat.le_refl _) _)
  · have hz := (Blk.new (w := w4.setCell ⟨w.heap.size, 0, none⟩ (.slice a4 2 c4)) (cs := #[u3 7]) (t := 33) rfl).cell 0 rfl
    have hs : (w4.setCell ⟨w.heap.size, 0, none⟩ (.slice a4 2 c4)).heap.size = w4.heap.size := (by simp [World.setCell])
    rw [hs] at hz
    exact hz
  intro W5 ⟨hq5, t5, y5⟩
  clear d0 f0 hq4 HO HD hq3
  refine (find_hit (.slice a4 2 c4) [ga, gc] w4.heap.size 7 true 1 5 _ t5 (by decide) y5 (by decide) (by decide) (by decide)).mono ?_
  rintro e w6 ⟨k, x, rfl, hx, hp, _, hb⟩
  obtain rfl := hit_gc hx hp
  have hq6 := q_step hq5 hb
  clear hx hp hb hq5 t5 y5
  unfold gc
  go_wp2_with fail
  go_returns
  exact ⟨by first | rfl | (simp; done), by (repeat' (first | with_reducible exact Below.refl _ _ | with_reducible assumption | with_reducible refine q_alloc ?_ _ | with_reducible refine q_drew ?_ | with_reducible refine q_drewN _ ?_ | with_reducible refine q_setCell ?_ ?_ _ | (left; simp; done) | (right; simp; done) | (right; dsimp only; omega) | (left; dsimp only; omega)))⟩
set_option maxRecDepth 100000 in
set_option maxHeartbeats 4000000 in
theorem of_any (g : G) (w : World) : Calls Try.prog 16 #[gV g] w fun e w' => e = .returned (gV g) ∧ Below w.heap.size w w' := by
  obtain ⟨a0, a1, a2, a3, a4, a5, a6, a7, a8⟩ := g
  go_enter Try.func16, Try.ntmps16
  go_wp2_with fail
  exact bodyPost_ret (v := gV ⟨a0, a1, a2, a3, a4, a5, a6, a7, a8⟩) (by simp [results, Try.results16, go_sem]) rfl ⟨rfl, by (repeat' (first | with_reducible exact Below.refl _ _ | with_reducible assumption | with_reducible refine q_alloc ?_ _ | with_reducible refine q_drew ?_ | with_reducible refine q_drewN _ ?_ | with_reducible refine q_setCell ?_ ?_ _ | (left; simp; done) | (right; simp; done) | (right; dsimp only; omega) | (left; dsimp only; omega)))⟩
theorem meetG_symm (g h : G) : meetG h g = meetG g h := by
  unfold meetG meetsB
  rw [Bool.eq_iff_iff]
  simp only [Bool.and_eq_true, Bool.or_eq_true, decide_eq_true_eq, beq_iff_eq]
  constructor
  · rintro ⟨⟨⟨h1, h2⟩, h3⟩, h4⟩
    exact ⟨⟨⟨h1.symm, h2.symm⟩, by omega⟩, by omega⟩
  · rintro ⟨⟨⟨h1, h2⟩, h3⟩, h4⟩
    exact ⟨⟨⟨h1.symm, h2.symm⟩, by omega⟩, by omega⟩
theorem meetG_self (g : G) : meetG g g = true := by
  unfold meetG meetsB; simp
end Go.Proofs.Ytmcndiljldbkcaa
