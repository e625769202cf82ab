/- Layer 38: one more grab. -/
import Derived.Test.YtmcndiljldbkcaaPs5
namespace Go.Proofs.Ytmcndiljldbkcaa
open Go Go.RowKit
set_option linter.unusedSimpArgs false
set_option linter.unusedVariables false
theorem own_le {w : World} {base base' : Nat} {e : TypeId} {s n : Nat} {v : Value} {xs : List Value} (h : w.ownsRow base e s v n xs) (hb : base' ≤ base) : w.ownsRow base' e s v n xs := by
  refine ⟨h.1, ?_⟩
  rcases h.2 with h0 | ⟨g, cap, cur, hv, hg, hr⟩
  · exact Or.inl h0
  · exact Or.inr ⟨g, cap, cur, hv, Nat.le_trans hb hg, hr⟩
theorem grown_set (w : World) (b o : Nat) (u : Value) : w.grownBy (w.setCell ⟨b, o, none⟩ u) (some b) :=
  ⟨rfl, rfl, rfl, by simp [World.setCell], fun k _ hk => Below.heap_setCell _ _ _ _ (fun e => hk (by rw [e]))⟩
theorem own_set {w : World} {base b o : Nat} {e : TypeId} {s n : Nat} {v u : Value} {xs : List Value} (h : w.ownsRow base e s v n xs) (hb : b < base) : (w.setCell ⟨b, o, none⟩ u).ownsRow base e s v n xs :=
  h.kept (grown_set w b o u) (Or.inr fun e => by have := (h.lt _ e).1; omega)
theorem Blk.grown {w w' : World} {b : Nat} {vs : List Value} {row : Option Nat} (h : Blk w b vs) (hg : w.grownBy w' row) (hne : some b ≠ row) : Blk w' b vs :=
  ⟨Nat.lt_of_lt_of_le h.1 hg.size, fun j v hj => ⟨(World.cell?_of_block (hg.block b h.1 hne)).trans (h.2 j v hj).1, (World.frozen?_of_block (hg.block b h.1 hne)).trans (h.2 j v hj).2⟩⟩
theorem own_snoc {w : World} {base : Nat} {v : Value} {gs : List G} {g : G} {n : Nat} (hn : gs.length = n) (h : w.ownsRow base 35 9 v (n + 1) (cellsG gs ++ gL g)) : OwnG w base v (gs ++ [g]) := by
  show w.ownsRow base 35 9 v (gs ++ [g]).length (cellsG (gs ++ [g]))
  rw [cellsG_snoc, List.length_append, hn]; exact h
theorem idx_none {p : G → Bool} {gs : List G} {r : Int} (h : IdxIs p gs r) (hk : gs.any p = false) : r = -1 := by
  rcases h with ⟨h, _⟩ | ⟨k, x, _, hx, hp, _⟩
  · exact h
  · rw [List.any_eq_true.2 ⟨x, List.mem_of_getElem? hx, hp⟩] at hk; cases hk
set_option maxRecDepth 100000 in
set_option maxHeartbeats 16000000 in
theorem add_new (g : G) (hg : RightG g) (v : Value) (gs : List G) (w : World) (hv : TabG w v gs) (hl : gs.length < 256) (hc : gs.any (conflB g) = false) (hk : gs.any (likeB g) = false) :
    Calls Try.prog 21 #[.agg #[v], gV g] w fun e w' => ∃ v', e = .returned (.tuple #[.agg #[v'], i6 0]) ∧ OwnG w' w.heap.size v' (gs ++ [g]) ∧ Below w.heap.size w w' := by
  obtain ⟨i0, hi, hz0, hz1, hz2⟩ := info_parts info_grab
  obtain ⟨A, cap, rfl, _⟩ := hv.is
  have HG := Lib.hid hg
  have HT := Lib.hid hv
  have HC := Lib.hid hc
  have HK := Lib.hid hk
  have hl1 : gs.length ≤ 1000 := by omega
  clear hg hv hc hk
  obtain ⟨n, hn⟩ : ∃ n, gs.length = n := ⟨_, rfl⟩
  rw [hn] at HT hl
  have HN := Lib.hid hn
  rw [hn]
  clear hn
  go_enter Try.func21, Try.ntmps21
  go_wp2_with fail
  refine calls_world (fun W => Below w.heap.size w W ∧ Blk W w.heap.size [.slice A n cap] ∧ Blk W (w.heap.size + 1) (gL g) ∧ Blk W (w.heap.size + 1 + 1) [.slice none 0 0]) ⟨by (repeat' (first | with_reducible exact Below.refl _ _ | with_reducible assumption | with_reducible refine q_alloc ?_ _ | with_reducible refine q_drew ?_ | with_reducible refine q_drewN _ ?_ | with_reducible refine q_setCell ?_ ?_ _ | (left; simp; done) | (right; simp; done) | (right; dsimp only; omega) | (left; dsimp only; omega))), ((Blk.new rfl).alloc _).alloc _, (blk_new1 rfl).alloc _, blk_new2 rfl⟩ ?_
  intro W1 ⟨hq1, b1, b2, b3⟩
  refine (check_ok g _ HG.out).mono ?_
  rintro e w2 ⟨rfl, hb⟩
  have hq2 := q_step hq1 hb
  have d0 := (b1.below hb).cell 0 rfl
  have C1 := Lib.hid (b1.below hb)
  have C2 := Lib.hid (b2.below hb)
  have C3 := Lib.hid (b3.below hb)
  clear b1 b2 b3 hq1 hb
  go_wp2_with fail
  refine (contains_a (w.heap.size + 1) (conflB g) gs _ _ ((HT.out.below hq2).is) hl1 (fun W x hW => confl_any _ g x W (C2.out.below hW))).mono ?_
  rintro e w3 ⟨rfl, hb⟩
  rw [HC.out]
  have hq3 := q_step hq2 hb
  replace C1 := Lib.hid (C1.out.below hb)
  replace C2 := Lib.hid (C2.out.below hb)
  replace C3 := Lib.hid (C3.out.below hb)
  clear d0
  have d0 := C1.out.cell 0 rfl
  clear hb hq2
  go_wp2_with fail
  refine (index_b (w.heap.size + 1) (likeB g) gs _ _ ((HT.out.below hq3).is) hl1 (fun W x hW => like_any _ g x W (C2.out.below hW))).mono ?_
  rintro e w4 ⟨r, rfl, hr, hb⟩
  have hq4 := q_step hq3 hb
  replace C1 := Lib.hid (C1.out.below hb)
  replace C2 := Lib.hid (C2.out.below hb)
  replace C3 := Lib.hid (C3.out.below hb)
  clear d0
  have d0 := C1.out.cell 0 rfl
  clear hb hq3
  obtain rfl := idx_none hr HK.out
  clear hr
  have C4z := C3.out.lt
  go_wp2_with fail
  refine (clone_any _ gs _ (HT.out.below hq4) hl1).mono ?_
  rintro e w5 ⟨v5, rfl, ho5, hb⟩
  have hq5 := q_step hq4 hb
  replace C1 := Lib.hid (C1.out.below hb)
  replace C2 := Lib.hid (C2.out.below hb)
  replace C3 := Lib.hid (C3.out.below hb)
  have ho5' : OwnG w5 (w.heap.size + 3) v5 gs := own_le ho5 (by have := (C3.out).lt; have := hb.size; have := C4z; omega)
  clear d0 hb hq4 ho5
  obtain ⟨a5, c5, rfl⟩ := own_sl ho5'
  have HO5 := Lib.hid ho5'
  rw [HN.out] at HO5 ⊢
  clear ho5'
  have y0 := C2.out.cell 0 rfl
  have y1 := C2.out.cell 1 rfl
  have y2 := C2.out.cell 2 rfl
  have y3 := C2.out.cell 3 rfl
  have y4 := C2.out.cell 4 rfl
  have y5 := C2.out.cell 5 rfl
  have y6 := C2.out.cell 6 rfl
  have y7 := C2.out.cell 7 rfl
  have y8 := C2.out.cell 8 rfl
  have e1 : ¬ (256 : Int) ≤ (n : Int) := by omega
  have e2 : (n : Int) < 256 := by omega
  have hz5 := C3.out.lt
  go_wp2_with (at_builtin; refine wpList_append_own _ rfl _ _ 25 rfl (w.heap.size + 3) 35 i0 zeroG 9 64 und_grabs hi hz0 hz1 hz2 rfl (by decide) _ _ _ rfl (HO5.out.alloc _) ⟨w5.heap.size, 0, none⟩ 1 1 (gL g) rfl rfl ?c1 ?c2 ?c3 ?c4 ?c5 ?_)
  case c1 =>
    intro j u hj
    rw [show (⟨w5.heap.size, 0, none⟩ : Addr).add j = ⟨w5.heap.size, j, none⟩ by unfold Addr.add; split <;> simp_all]
    exact cell_new (by simpa [gL] using hj)
  case c2 =>
    intro u hu
    have : u ∈ cellsG [g] := by simpa [cellsG] using hu
    exact one_g _ _ this
  case c3 => unfold maxLen; omega
  case c4 => omega
  case c5 => simp; omega
  intro v6 w6 hown' hgrow _
  rw [HN.out] at hown'
  obtain ⟨a6, c6, rfl⟩ := own_sl hown'
  have hr6 : ∀ k, (Value.slice a5 n c5).ownBlock = some k → w.heap.size + 3 ≤ k := fun k hk => (HO5.out.lt k hk).1
  have hq6 : Below w.heap.size w w6 := (hq5.alloc hq5.size _).grown hgrow (by have := hq5.size; simp; omega) (fun j hj => by have := hr6 j hj; omega)
  have c3 := (C3.out.alloc (.cells #[i6 g.cl, u3 g.wi, .bool g.bu, i6 g.co, i6 g.mo, .bool g.ow, i6 g.ma, i6 g.pt, i6 g.kb] 35)).grown hgrow (fun e => by have := hr6 _ e.symm; omega)
  have HO6 := Lib.hid (own_snoc HN.out hown')
  have e0 := c3.cell 0 rfl
  have f0 := c3.froz 0 rfl
  clear hown' hgrow y0 y1 y2 y3 y4 y5 y6 y7 y8 C1 C2 C3 hq5 hr6 HO5
  go_wp2_with fail
  refine body_world (fun W => Below w.heap.size w W ∧ Blk W (w.heap.size + 1 + 1) [.slice a6 (n + 1) c6] ∧ OwnG W (w.heap.size + 3) (.slice a6 (n + 1) c6) (gs ++ [g])) ⟨by (repeat' (first | with_reducible exact Below.refl _ _ | with_reducible assumption | with_reducible refine q_alloc ?_ _ | with_reducible refine q_drew ?_ | with_reducible refine q_drewN _ ?_ | with_reducible refine q_setCell ?_ ?_ _ | (left; simp; done) | (right; simp; done) | (right; dsimp only; omega) | (left; dsimp only; omega))), c3.set 0 _ (by simp) rfl, own_set HO6.out (by omega)⟩ ?_
  intro W9 ⟨hq9, b9, o9⟩
  clear e0 f0 c3
  have d0 := b9.cell 0 rfl
  exact bodyPost_ret (v := .tuple #[.agg #[.slice a6 (n + 1) c6], i6 0]) (by simp [results, Try.results21, go_sem, d0]) rfl ⟨_, rfl, own_le o9 (by omega), hq9⟩
end Go.Proofs.Ytmcndiljldbkcaa
