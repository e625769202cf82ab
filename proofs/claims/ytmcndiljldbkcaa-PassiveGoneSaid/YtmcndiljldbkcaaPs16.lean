/- Layer 38: Add of a grab that the table has already: it is put in its place. -/
import Derived.Test.YtmcndiljldbkcaaPs8
import Derived.Deep.MidRow
import Derived.Laws.OwnMore
import Derived.Laws.IdiomCopy
namespace Go.Proofs.Ytmcndiljldbkcaa
open Go Go.RowKit
set_option linter.unusedSimpArgs false
set_option linter.unusedVariables false

theorem below_setCells' {B b : Nat} {a : World} (hb : B ≤ b) : ∀ (vs : List Value) (o : Nat) {w : World}, Below B a w → Below B a (w.setCells b o vs)
  | [], _, _, h => h
  | v :: r, o, _, h => below_setCells' hb r (o + 1) (h.setCell hb v)
theorem Blk.setCells {w : World} {b b' : Nat} {vs : List Value} (h : Blk w b vs) (hne : b' ≠ b) (o : Nat) (us : List Value) : Blk (w.setCells b' o us) b vs := by
  refine ⟨Nat.lt_of_lt_of_le h.1 (below_setCells' (B := 0) (Nat.zero_le _) us o (Below.refl 0 w)).size, fun j v hj => ⟨?_, ?_⟩⟩
  · rw [World.cell?_setCells_out _ _ _ _ _ (fun e => absurd e.symm hne)]; exact (h.2 j v hj).1
  · rw [World.frozen?_setCells]; exact (h.2 j v hj).2
theorem tab_set {w : World} {base c cap n k : Nat} {gs : List G} {g : G} (hn : gs.length = n) (h : w.ownsRow base 35 9 (.slice (some ⟨c, 0, none⟩) n cap) n (cellsG gs)) (hk : k < n) (hc : c < w.heap.size) :
    TabG (w.setCells c (k * 9) (gL g)) (.slice (some ⟨c, 0, none⟩) n cap) (gs.set k g) := by
  refine Or.inr ⟨by rw [List.length_set]; omega, _, cap, by rw [List.length_set, hn], fun _ => ⟨c, 0, rfl, Nat.lt_of_lt_of_le hc (below_setCells' (B := 0) (Nat.zero_le _) _ _ (Below.refl 0 w)).size, fun i x hi j u hj => ?_⟩⟩
  have hj9 : j < 9 := by have := (List.getElem?_eq_some_iff.1 hj).1; rw [gL_len] at this; exact this
  have hin : i < n := by have := (List.getElem?_eq_some_iff.1 hi).1; rw [List.length_set] at this; omega
  rw [Nat.zero_add]
  by_cases hik : i = k
  · subst hik
    rw [List.getElem?_set_self (by omega)] at hi
    have hi := Option.some.inj hi
    subst hi
    have h1 : ∀ q, q < (gL g).length → (w.cell? ⟨c, i * 9 + q, none⟩).isSome = true := by
      intro q hq
      rw [gL_len] at hq
      rw [h.cellAt (i * 9 + q) (by omega), List.getElem?_eq_getElem (by rw [cellsG_len]; omega)]; rfl
    have h2 := World.cell?_setCells_in c (gL g) (i * 9) w h1 j (by rw [gL_len]; exact hj9)
    refine h2.trans ?_
    rw [← List.getElem?_eq_getElem]
    exact hj
  · rw [List.getElem?_set_ne (by omega)] at hi
    rw [World.cell?_setCells_out _ _ _ _ _ (fun _ _ => by rw [gL_len]; dsimp only; omega), h.cellAt (i * 9 + j) (by omega), cellsG_at gs i x hi j hj9]
    exact hj
theorem tab_far {w : World} {b c n cap : Nat} {gs : List G} (h : TabG w (.slice (some ⟨c, 0, none⟩) n cap) gs) (hne : b ≠ c) (o : Nat) (u : Value) : TabG (w.setCell ⟨b, o, none⟩ u) (.slice (some ⟨c, 0, none⟩) n cap) gs := by
  rcases h with ⟨h, _⟩ | ⟨h0, A, cap', e, hf⟩
  · simp at h
  · injection e with e1 e2 e3
    subst e1 e2 e3
    refine Or.inr ⟨h0, _, cap, rfl, fun hp => ?_⟩
    obtain ⟨b', off, e, hb, hlay⟩ := hf hp
    injection e with e
    injection e with e1 e2
    subst e1 e2
    refine ⟨c, 0, rfl, by simpa [World.setCell] using hb, fun i x hi j v hj => set_far (hlay i x hi j v hj) (by intro e; injection e with e1; exact hne e1)⟩
theorem there_g {w : World} {base c cap n k : Nat} {gs : List G} (hn : gs.length = n) (h : w.ownsRow base 35 9 (.slice (some ⟨c, 0, none⟩) n cap) n (cellsG gs)) (hk : k < n) (g : G) : w.there c (k * 9) (gL g).toArray.size := by
  rw [List.size_toArray, gL_len]
  exact fun j hj =>
  ⟨by rw [h.cellAt (k * 9 + j) (by omega), List.getElem?_eq_getElem (by rw [cellsG_len]; omega)]; rfl, h.frozenAt _⟩
theorem at_store (t : TypeId) {x y : Operand} {ops : Array Oper} {rest : List Oper} {d : Option Tmp} {t' : TypeId} {p : String} {af : Array Edge} {a : Act} {w : World} {Q : Exit → Act → World → Prop}
    (h : wpList Try.prog ops Q ({ dst := d, op := .store t x y, type := t', pos := p, after := af, guard := none } :: rest) a w) : wpList Try.prog ops Q ({ dst := d, op := .store t x y, type := t', pos := p, after := af, guard := none } :: rest) a w := h
theorem info_size (g : G) : (Try.prog.info? 35).map (·.size) = some (gL g).toArray.size := by
  rw [List.size_toArray, gL_len]
  kernel_rfl
theorem one_cells (g : G) : (gL g).toArray.all (·.oneCell') = true := all_oneCell_toArray (fun u hu => one_g [g] u (by simpa [cellsG] using hu))
set_option maxRecDepth 100000 in
set_option maxHeartbeats 16000000 in
theorem add_same (g : G) (hg : RightG g) (v : Value) (gs : List G) (w : World) (hv : TabG w v gs) (hl : gs.length ≤ 1000) (hc : gs.any (conflB g) = false) (hk : gs.any (likeB g) = true) :
    Calls Try.prog 21 #[.agg #[v], gV g] w fun e w' => ∃ (v' : Value) (k : Nat) (x : G), e = .returned (.tuple #[.agg #[v'], i6 0]) ∧ (gs[k]? = some x ∧ likeB g x = true ∧ ∀ (j : Nat) (y : G), j < k → gs[j]? = some y → likeB g y = false) ∧ TabG w' v' (gs.set k g) ∧ (∃ b cap, v' = .slice (some ⟨b, 0, none⟩) gs.length cap ∧ w.heap.size ≤ b) ∧ Below w.heap.size w w' := by
  obtain ⟨i0, hi, hz0, hz1, hz2⟩ := info_parts info_grab
  obtain ⟨A, cap, rfl, _⟩ := hv.is
  have HG := Lib.hid hg
  have HT := Lib.hid hv
  have HC := Lib.hid hc
  have HK := Lib.hid hk
  have hl1 : gs.length ≤ 1000 := hl
  clear hg hv hc hk
  obtain ⟨n, hn⟩ : ∃ n, gs.length = n := ⟨_, rfl⟩
  rw [hn] at HT hl
  have HN := Lib.hid hn
  rw [hn]
  clear hn
  go_enter Try.func21, Try.ntmps21
  go_wp2_with fail
  refine calls_world (fun W => Below w.heap.size w W ∧ Blk W w.heap.size [.slice A n cap] ∧ Blk W (w.heap.size + 1) (gL g) ∧ Blk W (w.heap.size + 1 + 1) [.slice none 0 0]) ⟨by (repeat' (first | with_reducible exact Below.refl _ _ | with_reducible assumption | with_reducible refine q_alloc ?_ _ | with_reducible refine q_drew ?_ | with_reducible refine q_drewN _ ?_ | with_reducible refine q_setCell ?_ ?_ _ | (left; simp; done) | (right; simp; done) | (right; dsimp only; omega) | (left; dsimp only; omega))), ((Blk.new rfl).alloc _).alloc _, (blk_new1 rfl).alloc _, blk_new2 rfl⟩ ?_
  intro W1 ⟨hq1, b1, b2, b3⟩
  refine (check_ok g _ HG.out).mono ?_
  rintro e w2 ⟨rfl, hb⟩
  have hq2 := q_step hq1 hb
  have d0 := (b1.below hb).cell 0 rfl
  have C1 := Lib.hid (b1.below hb)
  have C2 := Lib.hid (b2.below hb)
  have C3 := Lib.hid (b3.below hb)
  clear b1 b2 b3 hq1 hb
  go_wp2_with fail
  refine (contains_a (w.heap.size + 1) (conflB g) gs _ _ ((HT.out.below hq2).is) hl1 (fun W x hW => confl_any _ g x W (C2.out.below hW))).mono ?_
  rintro e w3 ⟨rfl, hb⟩
  rw [HC.out]
  have hq3 := q_step hq2 hb
  replace C1 := Lib.hid (C1.out.below hb)
  replace C2 := Lib.hid (C2.out.below hb)
  replace C3 := Lib.hid (C3.out.below hb)
  clear d0
  have d0 := C1.out.cell 0 rfl
  clear hb hq2
  go_wp2_with fail
  refine (index_b (w.heap.size + 1) (likeB g) gs _ _ ((HT.out.below hq3).is) hl1 (fun W x hW => like_any _ g x W (C2.out.below hW))).mono ?_
  rintro e w4 ⟨r, rfl, hr, hb⟩
  have hq4 := q_step hq3 hb
  replace C1 := Lib.hid (C1.out.below hb)
  replace C2 := Lib.hid (C2.out.below hb)
  replace C3 := Lib.hid (C3.out.below hb)
  clear d0
  have d0 := C1.out.cell 0 rfl
  clear hb hq3
  obtain ⟨k, x, rfl, hx, hpx, hno⟩ := idx_hit hr HK.out
  have hkn : k < n := by have := (List.getElem?_eq_some_iff.1 hx).1; have := HN.out; omega
  have HX : Hid (gs[k]? = some x ∧ likeB g x = true ∧ ∀ (j : Nat) (y : G), j < k → gs[j]? = some y → likeB g y = false) := Lib.hid ⟨hx, hpx, hno⟩
  clear hr hx hpx hno
  have ek : (0 : Int) ≤ (k : Int) := by omega
  have ek2 : (k : Int) < (n : Int) := by omega
  have C4z := C3.out.lt
  go_wp2_with fail
  refine (clone_any _ gs _ (HT.out.below hq4) hl1).mono ?_
  rintro e w5 ⟨v5, rfl, ho5, hb⟩
  have hq5 := q_step hq4 hb
  replace C1 := Lib.hid (C1.out.below hb)
  replace C2 := Lib.hid (C2.out.below hb)
  replace C3 := Lib.hid (C3.out.below hb)
  have ho5' : OwnG w5 (w.heap.size + 3) v5 gs := own_le ho5 (by have := (C3.out).lt; have := hb.size; have := C4z; omega)
  clear d0 hb hq4 ho5
  obtain ⟨a5, c5, rfl⟩ := own_sl ho5'
  have HO5 := Lib.hid ho5'
  rw [HN.out] at HO5 ⊢
  clear ho5'
  replace HO5 : Hid (w5.ownsRow (w.heap.size + 3) 35 9 (.slice a5 n c5) n (cellsG gs)) := Lib.hid (by have := HO5.out; unfold OwnG at this; rw [HN.out] at this; exact this)
  obtain ⟨c, rfl⟩ : ∃ c, a5 = some ⟨c, 0, none⟩ := by
    obtain ⟨g', cap', e⟩ := Joins.ownsRow_form HO5.out (by omega)
    injection e with e1 e2 e3
    exact ⟨_, e1⟩
  have hcl := HO5.out.lt c rfl
  have y0 := C2.out.cell 0 rfl
  have y1 := C2.out.cell 1 rfl
  have y2 := C2.out.cell 2 rfl
  have y3 := C2.out.cell 3 rfl
  have y4 := C2.out.cell 4 rfl
  have y5 := C2.out.cell 5 rfl
  have y6 := C2.out.cell 6 rfl
  have y7 := C2.out.cell 7 rfl
  have y8 := C2.out.cell 8 rfl
  have c3 := C3.out.setCells (b' := c) (by omega) (k * 9) (gL g)
  have e0 := c3.cell 0 rfl
  have f0 := c3.froz 0 rfl
  have hlt := C3.out.lt
  have hlt2 := c3.lt
  have HC3 := Lib.hid c3
  clear c3
  have HQ6 := Lib.hid (below_setCells' (b := c) (by omega) (gL g) (k * 9) hq5)
  have HO6 := Lib.hid (tab_set (g := g) (k := k) HN.out HO5.out hkn hcl.2)
  have HTH := Lib.hid (there_g (k := k) HN.out HO5.out hkn g)
  obtain ⟨w6, hw6⟩ : ∃ w6, w5.setCells c (k * 9) (gL g) = w6 := ⟨_, rfl⟩
  have HW6 : Hid (w5.setCells c (k * 9) (gL g).toArray.toList = w6) := Lib.hid hw6
  rw [hw6] at HC3 HQ6 HO6 e0 f0 hlt2
  clear hw6
  go_wp2_with (with_reducible refine at_store 35 ?_; refine wpList_store_mid rfl 35 _ _ rfl c _ (gL g).toArray rfl rfl HTH.out (info_size g) (one_cells g) ?_; rw [HW6.out])
  refine body_world (fun W => Below w.heap.size w W ∧ Blk W (w.heap.size + 1 + 1) [.slice (some ⟨c, 0, none⟩) n c5] ∧ TabG W (.slice (some ⟨c, 0, none⟩) n c5) (gs.set k g)) ⟨q_setCell HQ6.out (Or.inr (by dsimp only; omega)) _, HC3.out.set 0 _ (by simp) rfl, tab_far HO6.out (by omega) 0 _⟩ ?_
  intro W9 ⟨hq9, b9, o9⟩
  clear e0 f0
  have d0 := b9.cell 0 rfl
  exact bodyPost_ret (v := .tuple #[.agg #[.slice (some ⟨c, 0, none⟩) n c5], i6 0]) (by simp [results, Try.results21, go_sem, d0]) rfl ⟨_, k, x, rfl, HX.out, o9, ⟨c, c5, rfl, by omega⟩, hq9⟩
end Go.Proofs.Ytmcndiljldbkcaa
