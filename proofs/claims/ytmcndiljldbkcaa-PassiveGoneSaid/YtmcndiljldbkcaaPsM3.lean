/- Layer 38: Ps35, Ps36, Ps37, Ps38, Ps39 put together. -/
import Derived.Test.YtmcndiljldbkcaaPsM2
/- Layer 38: copies of any row of grabs. -/
namespace Go.Proofs.Ytmcndiljldbkcaa
open Go Go.RowKit
set_option linter.unusedSimpArgs false
set_option linter.unusedVariables false
set_option maxRecDepth 100000 in
set_option maxHeartbeats 4000000 in
theorem clone_i (v : Value) (gs : List G) (w : World) (hv : IsG w v gs) (hl : gs.length ≤ 1000) :
    Calls Try.prog 35 #[v] w fun e w' => ∃ v', e = .returned v' ∧ OwnG w' w.heap.size v' gs ∧ Below w.heap.size w w' := by
  rcases Nat.eq_zero_or_pos gs.length with h0 | h0
  · obtain rfl : gs = [] := List.eq_nil_of_length_eq_zero h0
    obtain ⟨A, cap, rfl, hf⟩ := hv
    clear hf
    obtain ⟨i0, hi, hz0, hz1, hz2⟩ := info_parts info_grab
    cases A with
    | none =>
      have hq := eqNilG none 0 cap
      go_enter Try.func35, Try.ntmps35
      go_wp2_with fail
      go_returns
      exact ⟨_, rfl, World.ownsRow_nil _ _ _ _, Below.refl _ _⟩
    | some a =>
      have hq := eqNilG (some a) 0 cap
      have hown : (w.alloc (.cells #[] 35)).ownsRow w.heap.size 35 9 (.slice (some ⟨w.heap.size, 0, none⟩) 0 0) 0 [] := World.ownsRow_lit w #[] 0 (Nat.le_refl _) (by decide) rfl
      have HOWN := Lib.hid hown
      clear hown
      go_enter Try.func35, Try.ntmps35
      go_wp2_with (at_builtin; refine wpList_append_own _ rfl _ _ 25 rfl w.heap.size 35 i0 zeroG 9 64 und_grabs hi hz0 hz1 hz2 rfl (by decide) _ _ _ rfl HOWN.out a 0 cap [] rfl rfl ?c1 ?c2 ?c3 ?c4 ?c5 ?_)
      case c1 => intro j u hj; simp at hj
      case c2 => intro u hu; simp at hu
      case c3 => unfold maxLen; omega
      case c4 => omega
      case c5 => simp
      intro v' w9 hown' hgrow _
      have hb1 : Below w.heap.size w w9 := ((Below.refl w.heap.size w).alloc (Nat.le_refl _) _).grown hgrow (by simp) (fun j hj => by simp [Value.ownBlock] at hj; omega)
      have HO : Hid (w9.ownsRow w.heap.size 35 9 v' 0 []) := Lib.hid (by simpa using hown')
      clear hown' hgrow
      go_wp2_with fail
      go_returns
      exact ⟨_, rfl, HO.out, hb1⟩
  · exact clone_any v gs w (Or.inr ⟨h0, hv⟩) hl
end Go.Proofs.Ytmcndiljldbkcaa
/- Layer 38: Add of a new grab to any row of grabs. -/
namespace Go.Proofs.Ytmcndiljldbkcaa
open Go Go.RowKit
set_option linter.unusedSimpArgs false
set_option linter.unusedVariables false
set_option maxRecDepth 100000 in
set_option maxHeartbeats 16000000 in
theorem add_newI (g : G) (hg : RightG g) (v : Value) (gs : List G) (w : World) (hv : IsG w v gs) (hl : gs.length < 256) (hc : gs.any (conflB g) = false) (hk : gs.any (likeB g) = false) :
    Calls Try.prog 21 #[.agg #[v], gV g] w fun e w' => ∃ v', e = .returned (.tuple #[.agg #[v'], i6 0]) ∧ OwnG w' w.heap.size v' (gs ++ [g]) ∧ Below w.heap.size w w' := by
  obtain ⟨i0, hi, hz0, hz1, hz2⟩ := info_parts info_grab
  obtain ⟨A, cap, rfl, _⟩ := id hv
  have HG := Lib.hid hg
  have HT := Lib.hid hv
  have HC := Lib.hid hc
  have HK := Lib.hid hk
  have hl1 : gs.length ≤ 1000 := by omega
  clear hg hv hc hk
  obtain ⟨n, hn⟩ : ∃ n, gs.length = n := ⟨_, rfl⟩
  rw [hn] at HT hl
  have HN := Lib.hid hn
  rw [hn]
  clear hn
  go_enter Try.func21, Try.ntmps21
  go_wp2_with fail
  refine calls_world (fun W => Below w.heap.size w W ∧ Blk W w.heap.size [.slice A n cap] ∧ Blk W (w.heap.size + 1) (gL g) ∧ Blk W (w.heap.size + 1 + 1) [.slice none 0 0]) ⟨by (repeat' (first | with_reducible exact Below.refl _ _ | with_reducible assumption | with_reducible refine q_alloc ?_ _ | with_reducible refine q_drew ?_ | with_reducible refine q_drewN _ ?_ | with_reducible refine q_setCell ?_ ?_ _ | (left; simp; done) | (right; simp; done) | (right; dsimp only; omega) | (left; dsimp only; omega))), ((Blk.new rfl).alloc _).alloc _, (blk_new1 rfl).alloc _, blk_new2 rfl⟩ ?_
  intro W1 ⟨hq1, b1, b2, b3⟩
  refine (check_ok g _ HG.out).mono ?_
  rintro e w2 ⟨rfl, hb⟩
  have hq2 := q_step hq1 hb
  have d0 := (b1.below hb).cell 0 rfl
  have C1 := Lib.hid (b1.below hb)
  have C2 := Lib.hid (b2.below hb)
  have C3 := Lib.hid (b3.below hb)
  clear b1 b2 b3 hq1 hb
  go_wp2_with fail
  refine (contains_a (w.heap.size + 1) (conflB g) gs _ _ ((HT.out.below hq2)) hl1 (fun W x hW => confl_any _ g x W (C2.out.below hW))).mono ?_
  rintro e w3 ⟨rfl, hb⟩
  rw [HC.out]
  have hq3 := q_step hq2 hb
  replace C1 := Lib.hid (C1.out.below hb)
  replace C2 := Lib.hid (C2.out.below hb)
  replace C3 := Lib.hid (C3.out.below hb)
  clear d0
  have d0 := C1.out.cell 0 rfl
  clear hb hq2
  go_wp2_with fail
  refine (index_b (w.heap.size + 1) (likeB g) gs _ _ ((HT.out.below hq3)) hl1 (fun W x hW => like_any _ g x W (C2.out.below hW))).mono ?_
  rintro e w4 ⟨r, rfl, hr, hb⟩
  have hq4 := q_step hq3 hb
  replace C1 := Lib.hid (C1.out.below hb)
  replace C2 := Lib.hid (C2.out.below hb)
  replace C3 := Lib.hid (C3.out.below hb)
  clear d0
  have d0 := C1.out.cell 0 rfl
  clear hb hq3
  obtain rfl := idx_none hr HK.out
  clear hr
  have C4z := C3.out.lt
  go_wp2_with fail
  refine (clone_i _ gs _ (HT.out.below hq4) hl1).mono ?_
  rintro e w5 ⟨v5, rfl, ho5, hb⟩
  have hq5 := q_step hq4 hb
  replace C1 := Lib.hid (C1.out.below hb)
  replace C2 := Lib.hid (C2.out.below hb)
  replace C3 := Lib.hid (C3.out.below hb)
  have ho5' : OwnG w5 (w.heap.size + 3) v5 gs := own_le ho5 (by have := (C3.out).lt; have := hb.size; have := C4z; omega)
  clear d0 hb hq4 ho5
  obtain ⟨a5, c5, rfl⟩ := own_sl ho5'
  have HO5 := Lib.hid ho5'
  rw [HN.out] at HO5 ⊢
  clear ho5'
  have y0 := C2.out.cell 0 rfl
  have y1 := C2.out.cell 1 rfl
  have y2 := C2.out.cell 2 rfl
  have y3 := C2.out.cell 3 rfl
  have y4 := C2.out.cell 4 rfl
  have y5 := C2.out.cell 5 rfl
  have y6 := C2.out.cell 6 rfl
  have y7 := C2.out.cell 7 rfl
  have y8 := C2.out.cell 8 rfl
  have e1 : ¬ (256 : Int) ≤ (n : Int) := by omega
  have e2 : (n : Int) < 256 := by omega
  have hz5 := C3.out.lt
  go_wp2_with (at_builtin; refine wpList_append_own _ rfl _ _ 25 rfl (w.heap.size + 3) 35 i0 zeroG 9 64 und_grabs hi hz0 hz1 hz2 rfl (by decide) _ _ _ rfl (HO5.out.alloc _) ⟨w5.heap.size, 0, none⟩ 1 1 (gL g) rfl rfl ?c1 ?c2 ?c3 ?c4 ?c5 ?_)
  case c1 =>
    intro j u hj
    rw [show (⟨w5.heap.size, 0, none⟩ : Addr).add j = ⟨w5.heap.size, j, none⟩ by unfold Addr.add; split <;> simp_all]
    exact cell_new (by simpa [gL] using hj)
  case c2 =>
    intro u hu
    have : u ∈ cellsG [g] := by simpa [cellsG] using hu
    exact one_g _ _ this
  case c3 => unfold maxLen; omega
  case c4 => omega
  case c5 => simp; omega
  intro v6 w6 hown' hgrow _
  rw [HN.out] at hown'
  obtain ⟨a6, c6, rfl⟩ := own_sl hown'
  have hr6 : ∀ k, (Value.slice a5 n c5).ownBlock = some k → w.heap.size + 3 ≤ k := fun k hk => (HO5.out.lt k hk).1
  have hq6 : Below w.heap.size w w6 := (hq5.alloc hq5.size _).grown hgrow (by have := hq5.size; simp; omega) (fun j hj => by have := hr6 j hj; omega)
  have c3 := (C3.out.alloc (.cells #[i6 g.cl, u3 g.wi, .bool g.bu, i6 g.co, i6 g.mo, .bool g.ow, i6 g.ma, i6 g.pt, i6 g.kb] 35)).grown hgrow (fun e => by have := hr6 _ e.symm; omega)
  have HO6 := Lib.hid (own_snoc HN.out hown')
  have e0 := c3.cell 0 rfl
  have f0 := c3.froz 0 rfl
  clear hown' hgrow y0 y1 y2 y3 y4 y5 y6 y7 y8 C1 C2 C3 hq5 hr6 HO5
  go_wp2_with fail
  refine body_world (fun W => Below w.heap.size w W ∧ Blk W (w.heap.size + 1 + 1) [.slice a6 (n + 1) c6] ∧ OwnG W (w.heap.size + 3) (.slice a6 (n + 1) c6) (gs ++ [g])) ⟨by (repeat' (first | with_reducible exact Below.refl _ _ | with_reducible assumption | with_reducible refine q_alloc ?_ _ | with_reducible refine q_drew ?_ | with_reducible refine q_drewN _ ?_ | with_reducible refine q_setCell ?_ ?_ _ | (left; simp; done) | (right; simp; done) | (right; dsimp only; omega) | (left; dsimp only; omega))), c3.set 0 _ (by simp) rfl, own_set HO6.out (by omega)⟩ ?_
  intro W9 ⟨hq9, b9, o9⟩
  clear e0 f0 c3
  have d0 := b9.cell 0 rfl
  exact bodyPost_ret (v := .tuple #[.agg #[.slice a6 (n + 1) c6], i6 0]) (by simp [results, Try.results21, go_sem, d0]) rfl ⟨_, rfl, own_le o9 (by omega), hq9⟩
end Go.Proofs.Ytmcndiljldbkcaa
/- Layer 38: the table without some of its grabs. -/
namespace Go.Proofs.Ytmcndiljldbkcaa
open Go Go.RowKit
set_option linter.unusedSimpArgs false
set_option linter.unusedVariables false
theorem blk_le {w w' : World} {b B : Nat} {vs : List Value} (h : Blk w b vs) (hl : b < B) (hb : Below B w w') : Blk w' b vs :=
  ⟨Nat.lt_of_lt_of_le h.1 hb.size, fun j v hj => ⟨(hb.cell (p := ⟨b, _, none⟩) hl).trans (h.2 j v hj).1, (hb.frozen (p := ⟨b, _, none⟩) hl).trans (h.2 j v hj).2⟩⟩
theorem isG_set {w : World} {v : Value} {gs : List G} {B b : Nat} (h : IsG w v gs) (hf : 0 < gs.length → FarG B v) (hb : b < B) (o : Nat) (u : Value) : IsG (w.setCell ⟨b, o, none⟩ u) v gs := by
  obtain ⟨A, cap, rfl, hl⟩ := h
  refine ⟨A, cap, rfl, fun h0 => ?_⟩
  obtain ⟨b', off, rfl, h1, h2⟩ := hl h0
  have h3 := hf h0 b' off _ _ rfl
  exact ⟨b', off, rfl, by simpa [World.setCell] using h1, fun i x hi j v hj => set_far (h2 i x hi j v hj) (by intro e; injection e with e1; omega)⟩
theorem left_pos {p : G → Bool} {gs : List G} (h : 0 < (leftL p gs).length) : 0 < gs.length := Nat.lt_of_lt_of_le h (List.length_filter_le _ _)
set_option maxRecDepth 100000 in
set_option maxHeartbeats 8000000 in
theorem without_d (c1 c2 c3 c4 c5 : Nat) (p : G → Bool) (gs : List G) (v : Value) (w : World) (hv : IsG w v gs) (hl : gs.length ≤ 1000)
    (hF : ∀ W x, Below w.heap.size w W → Calls Try.prog 47 #[gV x, .pointer (some ⟨c1, 0, none⟩), .pointer (some ⟨c2, 0, none⟩), .pointer (some ⟨c3, 0, none⟩), .pointer (some ⟨c4, 0, none⟩), .pointer (some ⟨c5, 0, none⟩)] W fun e w' => e = .returned (.bool (p x)) ∧ Below W.heap.size W w') :
    Calls Try.prog 36 #[.agg #[v], .func (.func 47) #[] #[.pointer (some ⟨c1, 0, none⟩), .pointer (some ⟨c2, 0, none⟩), .pointer (some ⟨c3, 0, none⟩), .pointer (some ⟨c4, 0, none⟩), .pointer (some ⟨c5, 0, none⟩)]] w fun e w' => ∃ v', e = .returned (.agg #[v']) ∧ IsG w' v' (leftL p gs) ∧ (0 < gs.length → FarG w.heap.size v') ∧ Below w.heap.size w w' := by
  have HV := Lib.hid hv
  have HF := Lib.hid hF
  clear hF
  obtain ⟨A, cap, rfl, _⟩ := hv
  obtain ⟨n, hn⟩ : ∃ n, gs.length = n := ⟨_, rfl⟩
  have HN := Lib.hid hn
  have hl1 := hl
  rw [hn] at HV hl ⊢
  clear hn
  go_enter Try.func36, Try.ntmps36
  go_wp2_with fail
  refine calls_world (fun W => Below w.heap.size w W ∧ Blk W (w.heap.size + 1) [.slice none 0 0]) ⟨by (repeat' (first | with_reducible exact Below.refl _ _ | with_reducible assumption | with_reducible refine q_alloc ?_ _ | with_reducible refine q_drew ?_ | with_reducible refine q_drewN _ ?_ | with_reducible refine q_setCell ?_ ?_ _ | (left; simp; done) | (right; simp; done) | (right; dsimp only; omega) | (left; dsimp only; omega))), by first | exact Blk.drew (blk_new1 rfl) | exact blk_new1 rfl⟩ ?_
  intro W1 ⟨hq1, c1_⟩
  refine (clone_i _ gs W1 (HV.out.below hq1) hl1).mono ?_
  rintro e w2 ⟨v2, rfl, ho, hb⟩
  have hq2 := q_step hq1 hb
  have HO := Lib.hid ho
  have C2 := Lib.hid (c1_.below hb)
  have hlt1 := c1_.lt
  have hsz : w.heap.size ≤ W1.heap.size := hq1.size
  have hsz2 := hb.size
  clear ho c1_ hb hq1
  go_wp2_with fail
  have C2z := C2.out.lt
  refine (delete_d W1.heap.size c1 c2 c3 c4 c5 p gs v2 w2 hsz2 (ownG_is HO.out) (fun _ => HO.out) hl1 (fun W x h => HF.out W x (below_tr hq2 (below_le h hsz)))).mono ?_
  rintro e w3 ⟨v3, rfl, hi, hf, hb3⟩
  have HQ3 := Lib.hid (below_tr hq2 (below_le hb3 hsz))
  have HI := Lib.hid hi
  have HF3 := Lib.hid hf
  have HFr : Hid (0 < n → FarG w.heap.size v3) := Lib.hid (fun h b o m c e => Nat.le_trans hsz (hf (by rw [HN.out]; exact h) b o m c e))
  have C3 := Lib.hid (blk_le C2.out hlt1 hb3)
  have C3z := C3.out.lt
  have x0 := C3.out.cell 0 rfl
  have f0 := C3.out.froz 0 rfl
  obtain ⟨A3, cap3, rfl, _⟩ := hi
  clear hf hb3 hq2
  go_wp2_with fail
  refine body_world (fun W => Below w.heap.size w W ∧ Blk W (w.heap.size + 1) [.slice A3 (leftL p gs).length cap3] ∧ IsG W (.slice A3 (leftL p gs).length cap3) (leftL p gs)) ⟨q_setCell HQ3.out (Or.inr (by dsimp only; omega)) _, C3.out.set 0 _ (by simp) rfl, isG_set HI.out (fun h => HF3.out (left_pos h)) hlt1 _ _⟩ ?_
  intro W9 ⟨hq9, b9, i9⟩
  clear x0 f0
  have d0 := b9.cell 0 rfl
  exact bodyPost_ret (v := .agg #[.slice A3 (leftL p gs).length cap3]) (by simp [results, Try.results36, go_sem, d0]) rfl ⟨_, rfl, i9, HFr.out, hq9⟩
end Go.Proofs.Ytmcndiljldbkcaa
/- Layer 38: the table without some of its grabs: what a leave leaves. -/
namespace Go.Proofs.Ytmcndiljldbkcaa
open Go Go.RowKit
set_option linter.unusedSimpArgs false
set_option linter.unusedVariables false
set_option maxRecDepth 100000 in
set_option maxHeartbeats 8000000 in
theorem without_l (c1 c2 : Nat) (p : G → Bool) (gs : List G) (v : Value) (w : World) (hv : IsG w v gs) (hl : gs.length ≤ 1000)
    (hF : ∀ W x, Below w.heap.size w W → Calls Try.prog 37 #[gV x, .pointer (some ⟨c1, 0, none⟩), .pointer (some ⟨c2, 0, none⟩)] W fun e w' => e = .returned (.bool (p x)) ∧ Below W.heap.size W w') :
    Calls Try.prog 36 #[.agg #[v], .func (.func 37) #[] #[.pointer (some ⟨c1, 0, none⟩), .pointer (some ⟨c2, 0, none⟩)]] w fun e w' => ∃ v', e = .returned (.agg #[v']) ∧ IsG w' v' (leftL p gs) ∧ (0 < gs.length → FarG w.heap.size v') ∧ Below w.heap.size w w' := by
  have HV := Lib.hid hv
  have HF := Lib.hid hF
  clear hF
  obtain ⟨A, cap, rfl, _⟩ := hv
  obtain ⟨n, hn⟩ : ∃ n, gs.length = n := ⟨_, rfl⟩
  have HN := Lib.hid hn
  have hl1 := hl
  rw [hn] at HV hl ⊢
  clear hn
  go_enter Try.func36, Try.ntmps36
  go_wp2_with fail
  refine calls_world (fun W => Below w.heap.size w W ∧ Blk W (w.heap.size + 1) [.slice none 0 0]) ⟨by (repeat' (first | with_reducible exact Below.refl _ _ | with_reducible assumption | with_reducible refine q_alloc ?_ _ | with_reducible refine q_drew ?_ | with_reducible refine q_drewN _ ?_ | with_reducible refine q_setCell ?_ ?_ _ | (left; simp; done) | (right; simp; done) | (right; dsimp only; omega) | (left; dsimp only; omega))), by first | exact Blk.drew (blk_new1 rfl) | exact blk_new1 rfl⟩ ?_
  intro W1 ⟨hq1, c1_⟩
  refine (clone_i _ gs W1 (HV.out.below hq1) hl1).mono ?_
  rintro e w2 ⟨v2, rfl, ho, hb⟩
  have hq2 := q_step hq1 hb
  have HO := Lib.hid ho
  have C2 := Lib.hid (c1_.below hb)
  have hlt1 := c1_.lt
  have hsz : w.heap.size ≤ W1.heap.size := hq1.size
  have hsz2 := hb.size
  clear ho c1_ hb hq1
  go_wp2_with fail
  have C2z := C2.out.lt
  refine (delete_l W1.heap.size c1 c2 p gs v2 w2 hsz2 (ownG_is HO.out) (fun _ => HO.out) hl1 (fun W x h => HF.out W x (below_tr hq2 (below_le h hsz)))).mono ?_
  rintro e w3 ⟨v3, rfl, hi, hf, hb3⟩
  have HQ3 := Lib.hid (below_tr hq2 (below_le hb3 hsz))
  have HI := Lib.hid hi
  have HF3 := Lib.hid hf
  have HFr : Hid (0 < n → FarG w.heap.size v3) := Lib.hid (fun h b o m c e => Nat.le_trans hsz (hf (by rw [HN.out]; exact h) b o m c e))
  have C3 := Lib.hid (blk_le C2.out hlt1 hb3)
  have C3z := C3.out.lt
  have x0 := C3.out.cell 0 rfl
  have f0 := C3.out.froz 0 rfl
  obtain ⟨A3, cap3, rfl, _⟩ := hi
  clear hf hb3 hq2
  go_wp2_with fail
  refine body_world (fun W => Below w.heap.size w W ∧ Blk W (w.heap.size + 1) [.slice A3 (leftL p gs).length cap3] ∧ IsG W (.slice A3 (leftL p gs).length cap3) (leftL p gs)) ⟨q_setCell HQ3.out (Or.inr (by dsimp only; omega)) _, C3.out.set 0 _ (by simp) rfl, isG_set HI.out (fun h => HF3.out (left_pos h)) hlt1 _ _⟩ ?_
  intro W9 ⟨hq9, b9, i9⟩
  clear x0 f0
  have d0 := b9.cell 0 rfl
  exact bodyPost_ret (v := .agg #[.slice A3 (leftL p gs).length cap3]) (by simp [results, Try.results36, go_sem, d0]) rfl ⟨_, rfl, i9, HFr.out, hq9⟩
end Go.Proofs.Ytmcndiljldbkcaa
/- Layer 38: Drop and Leave. -/
namespace Go.Proofs.Ytmcndiljldbkcaa
open Go Go.RowKit
set_option linter.unusedSimpArgs false
set_option linter.unusedVariables false
theorem blk_at {w : World} {o : Obj} {cs : Array Value} {t : TypeId} {vs : List Value} {k : Nat} (hk : w.heap.size + 1 = k) (h : vs = cs.toList) : Blk ((w.alloc o).alloc (.cells cs t)) k vs := by
  subst hk
  exact blk_new1 h
theorem blk_new5 {w : World} {o1 o2 o3 o4 o5 : Obj} {cs : Array Value} {t : TypeId} {vs : List Value} (h : vs = cs.toList) : Blk ((((((w.alloc o1).alloc o2).alloc o3).alloc o4).alloc o5).alloc (.cells cs t)) (w.heap.size + 1 + 1 + 1 + 1 + 1) vs :=
  blk_at (by simp only [World.alloc, Array.size_push]) h
theorem blk_new6 {w : World} {o1 o2 o3 o4 o5 o6 : Obj} {cs : Array Value} {t : TypeId} {vs : List Value} (h : vs = cs.toList) : Blk (((((((w.alloc o1).alloc o2).alloc o3).alloc o4).alloc o5).alloc o6).alloc (.cells cs t)) (w.heap.size + 1 + 1 + 1 + 1 + 1 + 1) vs :=
  blk_at (by simp only [World.alloc, Array.size_push]) h
set_option maxRecDepth 100000 in
set_option maxHeartbeats 8000000 in
theorem pdrop_any (cl id : Int) (b : Bool) (c m : Int) (gs : List G) (v : Value) (w : World) (hv : IsG w v gs) (hl : gs.length ≤ 1000) :
    Calls Try.prog 40 #[.agg #[v], i6 cl, u3 id, .bool b, i6 c, i6 m] w fun e w' => ∃ v', e = .returned (.agg #[v']) ∧ IsG w' v' (leftL (dropB cl id b c m) gs) ∧ (0 < gs.length → FarG w.heap.size v') ∧ Below w.heap.size w w' := by
  have HV := Lib.hid hv
  obtain ⟨A, cap, rfl, _⟩ := hv
  obtain ⟨n, hn⟩ : ∃ n, gs.length = n := ⟨_, rfl⟩
  have HN := Lib.hid hn
  have hl1 := hl
  rw [hn] at HV hl ⊢
  clear hn
  go_enter Try.func40, Try.ntmps40
  go_wp2_with fail
  refine calls_world (fun W => Below w.heap.size w W ∧ Blk W (w.heap.size + 1) [i6 cl] ∧ Blk W (w.heap.size + 1 + 1) [u3 id] ∧ Blk W (w.heap.size + 1 + 1 + 1) [.bool b] ∧ Blk W (w.heap.size + 1 + 1 + 1 + 1) [i6 c] ∧ Blk W (w.heap.size + 1 + 1 + 1 + 1 + 1) [i6 m] ∧ Blk W (w.heap.size + 1 + 1 + 1 + 1 + 1 + 1) [.slice none 0 0]) ⟨by (repeat' (first | with_reducible exact Below.refl _ _ | with_reducible assumption | with_reducible refine q_alloc ?_ _ | with_reducible refine q_drew ?_ | with_reducible refine q_drewN _ ?_ | with_reducible refine q_setCell ?_ ?_ _ | (left; simp; done) | (right; simp; done) | (right; dsimp only; omega) | (left; dsimp only; omega))), ?a1, ?a2, ?a3, ?a4, ?a5, ?a6⟩ ?_
  case a1 => exact (((((Blk.alloc (blk_new1 rfl) _).alloc _).alloc _).alloc _).alloc _)
  case a2 => exact ((((Blk.alloc (blk_new2 rfl) _).alloc _).alloc _).alloc _)
  case a3 => exact (((Blk.alloc (blk_new3 rfl) _).alloc _).alloc _)
  case a4 => exact ((Blk.alloc (blk_new4 rfl) _).alloc _)
  case a5 => exact (Blk.alloc (blk_new5 rfl) _)
  case a6 => exact blk_new6 rfl
  intro W1 ⟨hq1, c1, c2, c3, c4, c5, c6⟩
  have C6 := Lib.hid c6
  have hlt6 := c6.lt
  refine (without_d (w.heap.size + 1) (w.heap.size + 1 + 1) (w.heap.size + 1 + 1 + 1) (w.heap.size + 1 + 1 + 1 + 1) (w.heap.size + 1 + 1 + 1 + 1 + 1) (dropB cl id b c m) gs _ W1 (HV.out.below hq1) hl1 (fun W x h => dropc_any _ _ _ _ _ cl id b c m x W ((c1.below h).cell 0 rfl) ((c2.below h).cell 0 rfl) ((c3.below h).cell 0 rfl) ((c4.below h).cell 0 rfl) ((c5.below h).cell 0 rfl))).mono ?_
  rintro e w2 ⟨v2, rfl, hi, hf, hb⟩
  have HQ2 := Lib.hid (q_step hq1 hb)
  have HI := Lib.hid hi
  have HF := Lib.hid hf
  have hsz : w.heap.size ≤ W1.heap.size := hq1.size
  have C7 := Lib.hid (c6.below hb)
  have C7z := C7.out.lt
  have x0 := C7.out.cell 0 rfl
  have f0 := C7.out.froz 0 rfl
  obtain ⟨A3, cap3, rfl, _⟩ := hi
  clear hf hb hq1 c1 c2 c3 c4 c5 c6
  go_wp2_with fail
  refine body_world (fun W => Below w.heap.size w W ∧ Blk W (w.heap.size + 1 + 1 + 1 + 1 + 1 + 1) [.slice A3 (leftL (dropB cl id b c m) gs).length cap3] ∧ IsG W (.slice A3 (leftL (dropB cl id b c m) gs).length cap3) (leftL (dropB cl id b c m) gs)) ⟨q_setCell HQ2.out (Or.inr (by dsimp only; omega)) _, C7.out.set 0 _ (by simp) rfl, isG_set HI.out (fun h => HF.out (left_pos h)) hlt6 _ _⟩ ?_
  intro W9 ⟨hq9, b9, i9⟩
  clear x0 f0
  have d0 := b9.cell 0 rfl
  exact bodyPost_ret (v := .agg #[.slice A3 (leftL (dropB cl id b c m) gs).length cap3]) (by simp [results, Try.results40, go_sem, d0]) rfl ⟨_, rfl, i9, fun h p o q c e => Nat.le_trans hsz (HF.out (by rw [HN.out]; exact h) p o q c e), hq9⟩
set_option maxRecDepth 100000 in
set_option maxHeartbeats 8000000 in
theorem pleave_any (cl : Int) (ia : Option Addr) (inn ic : Nat) (is : List Int) (gs : List G) (v : Value) (w : World) (hv : IsG w v gs) (hl : gs.length ≤ 1000) (hs : IsInts w .u32 (.slice ia inn ic) is) (hin : is.length = inn) (hil : inn ≤ 1000) :
    Calls Try.prog 23 #[.agg #[v], i6 cl, .slice ia inn ic] w fun e w' => ∃ v', e = .returned (.agg #[v']) ∧ IsG w' v' (leftL (leaveB cl is) gs) ∧ (0 < gs.length → FarG w.heap.size v') ∧ Below w.heap.size w w' := by
  have HV := Lib.hid hv
  have HS := Lib.hid hs
  have HIN := Lib.hid hin
  clear hs hin
  obtain ⟨A, cap, rfl, _⟩ := hv
  obtain ⟨n, hn⟩ : ∃ n, gs.length = n := ⟨_, rfl⟩
  have HN := Lib.hid hn
  have hl1 := hl
  rw [hn] at HV hl ⊢
  clear hn
  go_enter Try.func23, Try.ntmps23
  go_wp2_with fail
  refine calls_world (fun W => Below w.heap.size w W ∧ Blk W (w.heap.size + 1) [i6 cl] ∧ Blk W (w.heap.size + 1 + 1) [.slice ia inn ic] ∧ Blk W (w.heap.size + 1 + 1 + 1) [.slice none 0 0]) ⟨by (repeat' (first | with_reducible exact Below.refl _ _ | with_reducible assumption | with_reducible refine q_alloc ?_ _ | with_reducible refine q_drew ?_ | with_reducible refine q_drewN _ ?_ | with_reducible refine q_setCell ?_ ?_ _ | (left; simp; done) | (right; simp; done) | (right; dsimp only; omega) | (left; dsimp only; omega))), ?a1, ?a2, ?a3⟩ ?_
  case a1 => exact ((Blk.alloc (blk_new1 rfl) _).alloc _)
  case a2 => exact (Blk.alloc (blk_new2 rfl) _)
  case a3 => exact blk_new3 rfl
  intro W1 ⟨hq1, c1, c2, c6⟩
  have hlt6 := c6.lt
  refine (without_l (w.heap.size + 1) (w.heap.size + 1 + 1) (leaveB cl is) gs _ W1 (HV.out.below hq1) hl1 (fun W x h => leavec_any _ _ cl ia inn ic is x W ((c1.below h).cell 0 rfl) ((c2.below h).cell 0 rfl) (ints_lower (ints_lower HS.out hq1) h) HIN.out hil)).mono ?_
  rintro e w2 ⟨v2, rfl, hi, hf, hb⟩
  have HQ2 := Lib.hid (q_step hq1 hb)
  have HI := Lib.hid hi
  have HF := Lib.hid hf
  have hsz : w.heap.size ≤ W1.heap.size := hq1.size
  have C7 := Lib.hid (c6.below hb)
  have C7z := C7.out.lt
  have x0 := C7.out.cell 0 rfl
  have f0 := C7.out.froz 0 rfl
  obtain ⟨A3, cap3, rfl, _⟩ := hi
  clear hf hb hq1 c1 c2 c6
  go_wp2_with fail
  refine body_world (fun W => Below w.heap.size w W ∧ Blk W (w.heap.size + 1 + 1 + 1) [.slice A3 (leftL (leaveB cl is) gs).length cap3] ∧ IsG W (.slice A3 (leftL (leaveB cl is) gs).length cap3) (leftL (leaveB cl is) gs)) ⟨q_setCell HQ2.out (Or.inr (by dsimp only; omega)) _, C7.out.set 0 _ (by simp) rfl, isG_set HI.out (fun h => HF.out (left_pos h)) hlt6 _ _⟩ ?_
  intro W9 ⟨hq9, b9, i9⟩
  clear x0 f0
  have d0 := b9.cell 0 rfl
  exact bodyPost_ret (v := .agg #[.slice A3 (leftL (leaveB cl is) gs).length cap3]) (by simp [results, Try.results23, go_sem, d0]) rfl ⟨_, rfl, i9, fun h p o q c e => Nat.le_trans hsz (HF.out (by rw [HN.out]; exact h) p o q c e), hq9⟩
end Go.Proofs.Ytmcndiljldbkcaa
