/- Layer 38: a press finds a grab; the document's example. -/
import Derived.Test.YtmcndiljldbkcaaPs7
namespace Go.Proofs.Ytmcndiljldbkcaa
open Go Go.RowKit
set_option linter.unusedSimpArgs false
set_option linter.unusedVariables false
theorem blk_new3 {w : World} {o o' o'' : Obj} {cs : Array Value} {t : TypeId} {vs : List Value} (h : vs = cs.toList) : Blk ((((w.alloc o).alloc o').alloc o'').alloc (.cells cs t)) (w.heap.size + 1 + 1 + 1) vs := by
  have := blk_new2 (w := w.alloc o) (o := o') (o' := o'') (t := t) h
  rwa [World.size_alloc] at this
theorem blk_new4 {w : World} {o o' o'' o3 : Obj} {cs : Array Value} {t : TypeId} {vs : List Value} (h : vs = cs.toList) : Blk (((((w.alloc o).alloc o').alloc o'').alloc o3).alloc (.cells cs t)) (w.heap.size + 1 + 1 + 1 + 1) vs := by
  have := blk_new3 (w := w.alloc o) (o := o') (o' := o'') (o'' := o3) (t := t) h
  rwa [World.size_alloc] at this
theorem idx_hit {p : G → Bool} {gs : List G} {r : Int} (h : IdxIs p gs r) (hk : gs.any p = true) : ∃ (k : Nat) (x : G), r = (k : Int) ∧ gs[k]? = some x ∧ p x = true ∧ ∀ (j : Nat) (y : G), j < k → gs[j]? = some y → p y = false := by
  rcases h with ⟨_, h⟩ | h
  · obtain ⟨x, hx, hp⟩ := List.any_eq_true.1 hk
    rw [h x hx] at hp; cases hp
  · exact h
set_option maxRecDepth 100000 in
set_option maxHeartbeats 16000000 in
theorem find_hit (v : Value) (gs : List G) (pb : Nat) (id : Int) (b : Bool) (c m : Int) (w : World) (hv : TabG w v gs) (hl : gs.length ≤ 1000) (hp : w.cell? ⟨pb, 0, none⟩ = some (u3 id)) (hc1 : 1 ≤ c) (hc2 : c ≤ mostC b) (hk : gs.any (actB id b c m) = true) :
    Calls Try.prog 13 #[.agg #[v], .slice (some ⟨pb, 0, none⟩) 1 1, .bool b, i6 c, i6 m] w fun e w' => ∃ (k : Nat) (x : G), e = .returned (.tuple #[gV x, .bool true]) ∧ gs[k]? = some x ∧ actB id b c m x = true ∧ (∀ (j : Nat) (y : G), j < k → gs[j]? = some y → actB id b c m y = false) ∧ Below w.heap.size w w' := by
  obtain ⟨A, cap, rfl, hAf⟩ := hv.is
  have HAF := Lib.hid hAf
  have HT := Lib.hid hv
  have HK := Lib.hid hk
  have hpb := block_lt_of_cell hp
  dsimp only at hpb
  clear hv hk hAf
  obtain ⟨n, hn⟩ : ∃ n, gs.length = n := ⟨_, rfl⟩
  rw [hn] at HT HAF ⊢
  have HN := Lib.hid hn
  clear hn
  have g1 : ¬ c < 1 := by omega
  have hcM : c ≤ (if b = true then 5 else 255) := hc2
  cases b
  · simp only [Bool.false_eq_true, if_false, if_true] at hcM
    have g2 : ¬ (255 : Int) < c := by omega
    go_enter Try.func13, Try.ntmps13
    go_upto_region 1 with fail
    refine code_world (fun W => Below w.heap.size w W ∧ Blk W w.heap.size [.slice A n cap] ∧ Blk W (w.heap.size + 1) [.bool false] ∧ Blk W (w.heap.size + 1 + 1) [i6 c] ∧ Blk W (w.heap.size + 1 + 1 + 1) [i6 m] ∧ Blk W (w.heap.size + 1 + 1 + 1 + 1) [i6 0, u3 0, .bool false, i6 0, i6 0, .bool false, i6 0, i6 0, i6 0]) ⟨by (repeat' (first | with_reducible exact Below.refl _ _ | with_reducible assumption | with_reducible refine q_alloc ?_ _ | with_reducible refine q_drew ?_ | with_reducible refine q_drewN _ ?_ | with_reducible refine q_setCell ?_ ?_ _ | (left; simp; done) | (right; simp; done) | (right; dsimp only; omega) | (left; dsimp only; omega))), ?_, ?_, ?_, ?_, ?_⟩ ?_
    · exact ((((Blk.new rfl).alloc _).alloc _).alloc _).alloc _
    · exact (((blk_new1 rfl).alloc _).alloc _).alloc _
    · exact ((blk_new2 rfl).alloc _).alloc _
    · exact (blk_new3 rfl).alloc _
    · exact blk_new4 rfl
    intro W1 ⟨hq1, b0, b1, b2, b3, b4⟩
    have d1 := b1.cell 0 rfl
    have d2 := b2.cell 0 rfl
    have B0 := Lib.hid b0
    have B1 := Lib.hid b1
    have B2 := Lib.hid b2
    have B3 := Lib.hid b3
    have B4 := Lib.hid b4
    clear b0 b1 b2 b3 b4
    go_quiet ((go_at_call 26; first | exact quiet_eq (most_t _) | exact quiet_eq (most_f _)))
    go_wp2_with fail
    refine code_world (fun W => Below w.heap.size w W ∧ Blk W w.heap.size [.slice A n cap] ∧ Blk W (w.heap.size + 1) [.bool false] ∧ Blk W (w.heap.size + 1 + 1) [i6 c] ∧ Blk W (w.heap.size + 1 + 1 + 1) [i6 m] ∧ Blk W (w.heap.size + 1 + 1 + 1 + 1) [i6 0, u3 0, .bool false, i6 0, i6 0, .bool false, i6 0, i6 0, i6 0]) ⟨by (repeat' (first | with_reducible exact Below.refl _ _ | with_reducible assumption | with_reducible refine q_alloc ?_ _ | with_reducible refine q_drew ?_ | with_reducible refine q_drewN _ ?_ | with_reducible refine q_setCell ?_ ?_ _ | (left; simp; done) | (right; simp; done) | (right; dsimp only; omega) | (left; dsimp only; omega))), B0.out.drewN _, B1.out.drewN _, B2.out.drewN _, B3.out.drewN _, B4.out.drewN _⟩ ?_
    intro W2 ⟨hq2, b0, b1, b2, b3, b4⟩
    have p0 := cell_below hq2 hp
    have d0 := b0.cell 0 rfl
    clear d1 d2 hq1 B0 B1 B2 B3 B4
    have B1 := Lib.hid b1
    have B2 := Lib.hid b2
    have B3 := Lib.hid b3
    have B4 := Lib.hid b4
    have B0 := Lib.hid b0
    have hlt0 := b0.lt
    have hltp := block_lt_of_cell p0
    dsimp only at hltp
    clear b1 b2 b3 b4 b0
    refine wp_loop_rounds 2 ?_
    rw [rounds_succ]
    go_wp2_with fail
    refine (index_f W2.heap.size (w.heap.size + 1) (w.heap.size + 1 + 1) (w.heap.size + 1 + 1 + 1) (actB id false c m) gs _ _ ?_ hl (fun W x hW => act_any _ _ _ _ id false c m x W ?_ ?_ ?_ ?_)).mono ?_
    · exact (HT.out.below (by (repeat' (first | with_reducible exact Below.refl _ _ | with_reducible assumption | with_reducible refine q_alloc ?_ _ | with_reducible refine q_drew ?_ | with_reducible refine q_drewN _ ?_ | with_reducible refine q_setCell ?_ ?_ _ | (left; simp; done) | (right; simp; done) | (right; dsimp only; omega) | (left; dsimp only; omega))))).is
    · exact cell_below hW ((Blk.new (w := W2) (cs := #[u3 id]) (t := 33) rfl).cell 0 rfl)
    · exact cell_below hW ((B1.out.alloc _).cell 0 rfl)
    · exact cell_below hW ((B2.out.alloc _).cell 0 rfl)
    · exact cell_below hW ((B3.out.alloc _).cell 0 rfl)
    rintro e w3 ⟨r, rfl, hr, hb⟩
    have hq3 : Below w.heap.size w w3 := q_step (q_alloc hq2 _) hb
    obtain ⟨k, x, rfl, hx, hpx, hfx⟩ := idx_hit hr HK.out
    have hkn : k < n := by rw [← HN.out]; exact (List.getElem?_eq_some_iff.1 hx).1
    obtain ⟨gb, off, rfl, hgb, hlay⟩ := HAF.out (by omega)
    have hlx := fun j u hj => cell_below hq3 (hlay k x hx j u hj)
    clear d0 p0
    have d0 := ((B0.out.alloc (.cells #[u3 id] 33)).below hb).cell 0 rfl
    have y0 := hlx 0 _ rfl
    rw [Nat.add_zero] at y0
    have y1 := hlx 1 _ rfl
    have y2 := hlx 2 _ rfl
    have y3 := hlx 3 _ rfl
    have y4 := hlx 4 _ rfl
    have y5 := hlx 5 _ rfl
    have y6 := hlx 6 _ rfl
    have y7 := hlx 7 _ rfl
    have y8 := hlx 8 _ rfl
    have c4 := (B4.out.alloc (.cells #[u3 id] 33)).below hb
    have e0 := c4.cell 0 rfl
    have e1 := c4.cell 1 rfl
    have e2 := c4.cell 2 rfl
    have e3 := c4.cell 3 rfl
    have e4 := c4.cell 4 rfl
    have e5 := c4.cell 5 rfl
    have e6 := c4.cell 6 rfl
    have e7 := c4.cell 7 rfl
    have e8 := c4.cell 8 rfl
    have f0 := c4.froz 0 rfl
    have f1 := c4.froz 1 rfl
    have f2 := c4.froz 2 rfl
    have f3 := c4.froz 3 rfl
    have f4 := c4.froz 4 rfl
    have f5 := c4.froz 5 rfl
    have f6 := c4.froz 6 rfl
    have f7 := c4.froz 7 rfl
    have f8 := c4.froz 8 rfl
    have hlt4 := c4.lt
    have hki : (k : Int) < (n : Int) := by omega
    have hgw : gb ≠ w.heap.size + 1 + 1 + 1 + 1 := by omega
    have HX := Lib.hid hx
    have HPX := Lib.hid hpx
    have HFX := Lib.hid hfx
    have HC4 := Lib.hid c4
    clear hlx hlay hr hx hpx hfx c4 hb hq2
    go_wp2_with fail
    refine body_world (fun W => Below w.heap.size w W ∧ Blk W (w.heap.size + 1 + 1 + 1 + 1) (gL x)) ⟨by (repeat' (first | with_reducible exact Below.refl _ _ | with_reducible assumption | with_reducible refine q_alloc ?_ _ | with_reducible refine q_drew ?_ | with_reducible refine q_drewN _ ?_ | with_reducible refine q_setCell ?_ ?_ _ | (left; simp; done) | (right; simp; done) | (right; dsimp only; omega) | (left; dsimp only; omega))), ((((((((HC4.out.set 0 _ (by simp) rfl).set 1 _ (by simp) rfl).set 2 _ (by simp) rfl).set 3 _ (by simp) rfl).set 4 _ (by simp) rfl).set 5 _ (by simp) rfl).set 6 _ (by simp) rfl).set 7 _ (by simp) rfl).set 8 _ (by simp) rfl⟩ ?_
    intro W9 ⟨hq9, b9⟩
    clear e0 e1 e2 e3 e4 e5 e6 e7 e8 f0 f1 f2 f3 f4 f5 f6 f7 f8 y0 y1 y2 y3 y4 y5 y6 y7 y8 d0
    have e0 := b9.cell 0 rfl
    have e1 := b9.cell 1 rfl
    have e2 := b9.cell 2 rfl
    have e3 := b9.cell 3 rfl
    have e4 := b9.cell 4 rfl
    have e5 := b9.cell 5 rfl
    have e6 := b9.cell 6 rfl
    have e7 := b9.cell 7 rfl
    have e8 := b9.cell 8 rfl
    exact bodyPost_ret (v := .tuple #[gV x, .bool true]) (by simp [results, Try.results13, go_sem, e0, e1, e2, e3, e4, e5, e6, e7, e8]) rfl ⟨k, x, rfl, HX.out, HPX.out, HFX.out, hq9⟩
  · simp only [Bool.false_eq_true, if_false, if_true] at hcM
    have g2 : ¬ (5 : Int) < c := by omega
    go_enter Try.func13, Try.ntmps13
    go_upto_region 1 with fail
    refine code_world (fun W => Below w.heap.size w W ∧ Blk W w.heap.size [.slice A n cap] ∧ Blk W (w.heap.size + 1) [.bool true] ∧ Blk W (w.heap.size + 1 + 1) [i6 c] ∧ Blk W (w.heap.size + 1 + 1 + 1) [i6 m] ∧ Blk W (w.heap.size + 1 + 1 + 1 + 1) [i6 0, u3 0, .bool false, i6 0, i6 0, .bool false, i6 0, i6 0, i6 0]) ⟨by (repeat' (first | with_reducible exact Below.refl _ _ | with_reducible assumption | with_reducible refine q_alloc ?_ _ | with_reducible refine q_drew ?_ | with_reducible refine q_drewN _ ?_ | with_reducible refine q_setCell ?_ ?_ _ | (left; simp; done) | (right; simp; done) | (right; dsimp only; omega) | (left; dsimp only; omega))), ?_, ?_, ?_, ?_, ?_⟩ ?_
    · exact ((((Blk.new rfl).alloc _).alloc _).alloc _).alloc _
    · exact (((blk_new1 rfl).alloc _).alloc _).alloc _
    · exact ((blk_new2 rfl).alloc _).alloc _
    · exact (blk_new3 rfl).alloc _
    · exact blk_new4 rfl
    intro W1 ⟨hq1, b0, b1, b2, b3, b4⟩
    have d1 := b1.cell 0 rfl
    have d2 := b2.cell 0 rfl
    have B0 := Lib.hid b0
    have B1 := Lib.hid b1
    have B2 := Lib.hid b2
    have B3 := Lib.hid b3
    have B4 := Lib.hid b4
    clear b0 b1 b2 b3 b4
    go_quiet ((go_at_call 26; first | exact quiet_eq (most_t _) | exact quiet_eq (most_f _)))
    go_wp2_with fail
    refine code_world (fun W => Below w.heap.size w W ∧ Blk W w.heap.size [.slice A n cap] ∧ Blk W (w.heap.size + 1) [.bool true] ∧ Blk W (w.heap.size + 1 + 1) [i6 c] ∧ Blk W (w.heap.size + 1 + 1 + 1) [i6 m] ∧ Blk W (w.heap.size + 1 + 1 + 1 + 1) [i6 0, u3 0, .bool false, i6 0, i6 0, .bool false, i6 0, i6 0, i6 0]) ⟨by (repeat' (first | with_reducible exact Below.refl _ _ | with_reducible assumption | with_reducible refine q_alloc ?_ _ | with_reducible refine q_drew ?_ | with_reducible refine q_drewN _ ?_ | with_reducible refine q_setCell ?_ ?_ _ | (left; simp; done) | (right; simp; done) | (right; dsimp only; omega) | (left; dsimp only; omega))), B0.out.drewN _, B1.out.drewN _, B2.out.drewN _, B3.out.drewN _, B4.out.drewN _⟩ ?_
    intro W2 ⟨hq2, b0, b1, b2, b3, b4⟩
    have p0 := cell_below hq2 hp
    have d0 := b0.cell 0 rfl
    clear d1 d2 hq1 B0 B1 B2 B3 B4
    have B1 := Lib.hid b1
    have B2 := Lib.hid b2
    have B3 := Lib.hid b3
    have B4 := Lib.hid b4
    have B0 := Lib.hid b0
    have hlt0 := b0.lt
    have hltp := block_lt_of_cell p0
    dsimp only at hltp
    clear b1 b2 b3 b4 b0
    refine wp_loop_rounds 2 ?_
    rw [rounds_succ]
    go_wp2_with fail
    refine (index_f W2.heap.size (w.heap.size + 1) (w.heap.size + 1 + 1) (w.heap.size + 1 + 1 + 1) (actB id true c m) gs _ _ ?_ hl (fun W x hW => act_any _ _ _ _ id true c m x W ?_ ?_ ?_ ?_)).mono ?_
    · exact (HT.out.below (by (repeat' (first | with_reducible exact Below.refl _ _ | with_reducible assumption | with_reducible refine q_alloc ?_ _ | with_reducible refine q_drew ?_ | with_reducible refine q_drewN _ ?_ | with_reducible refine q_setCell ?_ ?_ _ | (left; simp; done) | (right; simp; done) | (right; dsimp only; omega) | (left; dsimp only; omega))))).is
    · exact cell_below hW ((Blk.new (w := W2) (cs := #[u3 id]) (t := 33) rfl).cell 0 rfl)
    · exact cell_below hW ((B1.out.alloc _).cell 0 rfl)
    · exact cell_below hW ((B2.out.alloc _).cell 0 rfl)
    · exact cell_below hW ((B3.out.alloc _).cell 0 rfl)
    rintro e w3 ⟨r, rfl, hr, hb⟩
    have hq3 : Below w.heap.size w w3 := q_step (q_alloc hq2 _) hb
    obtain ⟨k, x, rfl, hx, hpx, hfx⟩ := idx_hit hr HK.out
    have hkn : k < n := by rw [← HN.out]; exact (List.getElem?_eq_some_iff.1 hx).1
    obtain ⟨gb, off, rfl, hgb, hlay⟩ := HAF.out (by omega)
    have hlx := fun j u hj => cell_below hq3 (hlay k x hx j u hj)
    clear d0 p0
    have d0 := ((B0.out.alloc (.cells #[u3 id] 33)).below hb).cell 0 rfl
    have y0 := hlx 0 _ rfl
    rw [Nat.add_zero] at y0
    have y1 := hlx 1 _ rfl
    have y2 := hlx 2 _ rfl
    have y3 := hlx 3 _ rfl
    have y4 := hlx 4 _ rfl
    have y5 := hlx 5 _ rfl
    have y6 := hlx 6 _ rfl
    have y7 := hlx 7 _ rfl
    have y8 := hlx 8 _ rfl
    have c4 := (B4.out.alloc (.cells #[u3 id] 33)).below hb
    have e0 := c4.cell 0 rfl
    have e1 := c4.cell 1 rfl
    have e2 := c4.cell 2 rfl
    have e3 := c4.cell 3 rfl
    have e4 := c4.cell 4 rfl
    have e5 := c4.cell 5 rfl
    have e6 := c4.cell 6 rfl
    have e7 := c4.cell 7 rfl
    have e8 := c4.cell 8 rfl
    have f0 := c4.froz 0 rfl
    have f1 := c4.froz 1 rfl
    have f2 := c4.froz 2 rfl
    have f3 := c4.froz 3 rfl
    have f4 := c4.froz 4 rfl
    have f5 := c4.froz 5 rfl
    have f6 := c4.froz 6 rfl
    have f7 := c4.froz 7 rfl
    have f8 := c4.froz 8 rfl
    have hlt4 := c4.lt
    have hki : (k : Int) < (n : Int) := by omega
    have hgw : gb ≠ w.heap.size + 1 + 1 + 1 + 1 := by omega
    have HX := Lib.hid hx
    have HPX := Lib.hid hpx
    have HFX := Lib.hid hfx
    have HC4 := Lib.hid c4
    clear hlx hlay hr hx hpx hfx c4 hb hq2
    go_wp2_with fail
    refine body_world (fun W => Below w.heap.size w W ∧ Blk W (w.heap.size + 1 + 1 + 1 + 1) (gL x)) ⟨by (repeat' (first | with_reducible exact Below.refl _ _ | with_reducible assumption | with_reducible refine q_alloc ?_ _ | with_reducible refine q_drew ?_ | with_reducible refine q_drewN _ ?_ | with_reducible refine q_setCell ?_ ?_ _ | (left; simp; done) | (right; simp; done) | (right; dsimp only; omega) | (left; dsimp only; omega))), ((((((((HC4.out.set 0 _ (by simp) rfl).set 1 _ (by simp) rfl).set 2 _ (by simp) rfl).set 3 _ (by simp) rfl).set 4 _ (by simp) rfl).set 5 _ (by simp) rfl).set 6 _ (by simp) rfl).set 7 _ (by simp) rfl).set 8 _ (by simp) rfl⟩ ?_
    intro W9 ⟨hq9, b9⟩
    clear e0 e1 e2 e3 e4 e5 e6 e7 e8 f0 f1 f2 f3 f4 f5 f6 f7 f8 y0 y1 y2 y3 y4 y5 y6 y7 y8 d0
    have e0 := b9.cell 0 rfl
    have e1 := b9.cell 1 rfl
    have e2 := b9.cell 2 rfl
    have e3 := b9.cell 3 rfl
    have e4 := b9.cell 4 rfl
    have e5 := b9.cell 5 rfl
    have e6 := b9.cell 6 rfl
    have e7 := b9.cell 7 rfl
    have e8 := b9.cell 8 rfl
    exact bodyPost_ret (v := .tuple #[gV x, .bool true]) (by simp [results, Try.results13, go_sem, e0, e1, e2, e3, e4, e5, e6, e7, e8]) rfl ⟨k, x, rfl, HX.out, HPX.out, HFX.out, hq9⟩
end Go.Proofs.Ytmcndiljldbkcaa
