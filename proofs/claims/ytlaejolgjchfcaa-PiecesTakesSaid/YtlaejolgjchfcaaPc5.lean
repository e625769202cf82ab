/- Layer 42: the whole piece; a piece's row. -/
import Derived.Test.YtlaejolgjchfcaaPc2
import Derived.Test.YtlaejolgjchfcaaPc4
import Derived.Deep.RegionWith
import Derived.BigRegion
import Derived.Test.YtlaejolgjchfcaaInts2
namespace Go.Proofs.Ytlaejolgjchfcaa
open Go Go.RowKit
set_option linter.unusedSimpArgs false
set_option linter.unusedVariables false
set_option maxRecDepth 100000 in
set_option maxHeartbeats 4000000 in
theorem put_one (da : Option Addr) (cap : Nat) (us : List Int) (m : Nat) (w : World) (hv : IsI w (.slice da us.length cap) us) (hl : us.length ≤ 65536) :
    Calls Try.prog 13 #[gV (.slice da us.length cap) m 0 1] w fun e w' => ∃ v, e = .returned (.tuple #[pV false us.length v true, .bool true]) ∧ IsI w' v us ∧ Below w.heap.size w w' := by
  have HV := Lib.hid hv
  clear hv
  obtain ⟨D, hD⟩ : ∃ D, decide ((1 : Int) ≤ (0 : Int)) = D := ⟨_, rfl⟩
  obtain rfl : false = D := by rw [← hD]; simp
  go_enter Try.func13, Try.ntmps13
  go_wp2_with fail
  refine calls_world (fun W => Below w.heap.size w W ∧ Blk W w.heap.size [.slice da us.length cap, i6 m, i6 0, i6 1] ∧ Blk W (w.heap.size + 1) [.bool false, i6 0, .slice none 0 0, .bool false]) ⟨by (repeat' (first | with_reducible exact Below.refl _ _ | with_reducible assumption | with_reducible refine q_alloc ?_ _ | with_reducible refine q_drew ?_ | with_reducible refine q_drewN _ ?_ | with_reducible refine q_setCell ?_ ?_ _ | (left; simp; done) | (right; simp; done) | (right; dsimp only; omega) | (left; dsimp only; omega))), (Blk.new rfl).alloc _, blk_new1 rfl⟩ ?_
  intro W1 ⟨hq1, b0, b1⟩
  refine (done_any (.slice da us.length cap) m 0 1 _).mono ?_
  rintro e w2 ⟨rfl, hb⟩
  rw [hD]
  clear hD
  replace b0 := b0.below hb
  replace b1 := b1.below hb
  have hq := q_step hq1 hb
  clear hb hq1
  have c0 := b0.cell 0 rfl
  have c1 := b0.cell 1 rfl
  have c2 := b0.cell 2 rfl
  have c3 := b0.cell 3 rfl
  have d0 := b1.cell 0 rfl
  have d1 := b1.cell 1 rfl
  have d2 := b1.cell 2 rfl
  have d3 := b1.cell 3 rfl
  have e0 := b1.froz 0 rfl
  have e1 := b1.froz 1 rfl
  have e2 := b1.froz 2 rfl
  have e3 := b1.froz 3 rfl
  have hgt : w.heap.size + 1 < w2.heap.size := b1.lt
  go_upto_region 4 with fail
  go_region_with (first
    | (go_at_call 28; refine (copied_any _ us _ (HV.out.below (by (repeat' (first | with_reducible exact Below.refl _ _ | with_reducible assumption | with_reducible refine q_alloc ?_ _ | with_reducible refine q_drew ?_ | with_reducible refine q_drewN _ ?_ | with_reducible refine q_setCell ?_ ?_ _ | (left; simp; done) | (right; simp; done) | (right; dsimp only; omega) | (left; dsimp only; omega))))) (by omega)).mono ?_; rintro e w5 ⟨rfl, hcp, hb⟩; have hqq : Below w.heap.size w w5 := q_step (by (repeat' (first | with_reducible exact Below.refl _ _ | with_reducible assumption | with_reducible refine q_alloc ?_ _ | with_reducible refine q_drew ?_ | with_reducible refine q_drewN _ ?_ | with_reducible refine q_setCell ?_ ?_ _ | (left; simp; done) | (right; simp; done) | (right; dsimp only; omega) | (left; dsimp only; omega)))) hb; have hb2 : Below w2.heap.size w2 w5 := q_step (by (repeat' (first | with_reducible exact Below.refl _ _ | with_reducible assumption | with_reducible refine q_alloc ?_ _ | with_reducible refine q_drew ?_ | with_reducible refine q_drewN _ ?_ | with_reducible refine q_setCell ?_ ?_ _ | (left; simp; done) | (right; simp; done) | (right; dsimp only; omega) | (left; dsimp only; omega)))) hb; have b5 := b1.below hb2; have b6 := b0.below hb2; have HCP := Lib.hid hcp; have cc := b6.cell 0 rfl; clear hcp hb c0 c1 c2 c3 d0 d1 d2 d3 e0 e1 e2 e3; have d0 := b5.cell 0 rfl; have d1 := b5.cell 1 rfl; have d2 := b5.cell 2 rfl; have d3 := b5.cell 3 rfl; have e0 := b5.froz 0 rfl; have e1 := b5.froz 1 rfl; have e2 := b5.froz 2 rfl; have e3 := b5.froz 3 rfl))
  all_goals
    have hne : w.heap.size + 1 ≠ w2.heap.size := by omega
    go_wp2_with fail
    refine body_world (fun W => Below w.heap.size w W ∧ Blk W (w.heap.size + 1) [.bool false, i6 us.length, .slice (some ⟨w2.heap.size, 0, none⟩) us.length us.length, .bool true] ∧ IsI W (.slice (some ⟨w2.heap.size, 0, none⟩) us.length us.length) us) ⟨by (repeat' (first | with_reducible exact Below.refl _ _ | with_reducible assumption | with_reducible refine q_alloc ?_ _ | with_reducible refine q_drew ?_ | with_reducible refine q_drewN _ ?_ | with_reducible refine q_setCell ?_ ?_ _ | (left; simp; done) | (right; simp; done) | (right; dsimp only; omega) | (left; dsimp only; omega))), b5.set4, isI_set (isI_set (isI_set (isI_set HCP.out hne) hne) hne) hne⟩ ?_
    intro W4 ⟨hq4, b7, h6⟩
    clear d0 d1 d2 d3 e0 e1 e2 e3
    have d0 := b7.cell 0 rfl
    have d1 := b7.cell 1 rfl
    have d2 := b7.cell 2 rfl
    have d3 := b7.cell 3 rfl
    exact bodyPost_ret (v := .tuple #[pV false us.length (.slice (some ⟨w2.heap.size, 0, none⟩) us.length us.length) true, .bool true]) (by simp [results, Try.results13, go_sem, d0, d1, d2, d3]) rfl ⟨_, rfl, h6, hq4⟩
/-- A piece's row. -/
def codeL (k : Int) (t : Int) (us : List Int) : List Int := if k < 0 then [] else k :: t :: us
abbrev OwnL (w : World) (B : Nat) (v : Value) (us : List Int) : Prop := w.ownsRow B 2 1 v us.length (us.map i6)
theorem ownL_is {w : World} {B : Nat} {v : Value} {us : List Int} (h : OwnL w B v us) : IsI w v us := by
  rcases Nat.eq_zero_or_pos us.length with h0 | hp
  · have : us = [] := List.eq_nil_of_length_eq_zero h0
    subst this
    rcases Joins.ownsRow_forms h with ⟨rfl, _⟩ | ⟨g, cap, rfl⟩
    · exact Or.inl ⟨_, _, rfl, rfl⟩
    · exact Or.inl ⟨_, _, rfl, rfl⟩
  · obtain ⟨g, cap, rfl⟩ := Joins.ownsRow_form h hp
    have hlt := h.lt g rfl
    have hc := h.2
    rcases hc with ⟨hx, _⟩ | ⟨g', cap', cur, hv, _, _, hn, hm, _⟩
    · simp at hx
    · simp only [Value.slice.injEq] at hv
      obtain ⟨_, _, rfl⟩ := hv
      refine Or.inr ⟨g, 0, cap, rfl, hp, hn, hm, hlt.2, fun k r hk => ?_⟩
      have hkl : k < us.length := (List.getElem?_eq_some_iff.1 hk).1
      rw [Nat.zero_add]
      exact (h.cellAt k (by omega)).trans (by rw [List.getElem?_map, hk]; rfl)
theorem own_lit2 (w : World) (B : Nat) (a b : Int) (hb : B ≤ w.heap.size) : OwnL (w.alloc (.cells #[i6 a, i6 b] 2)) B (.slice (some ⟨w.heap.size, 0, none⟩) 2 2) [a, b] := by
  exact World.ownsRow_lit w #[i6 a, i6 b] 2 hb (by decide) rfl
theorem isI_ints {w : World} {v : Value} {us : List Int} (h : IsI w v us) : IsInts w .i64 v us := by
  rcases h with h | ⟨b, off, cap, h1, h2, h3, h4, h5, h6⟩
  · exact Or.inl h
  · refine Or.inr ⟨b, off, cap, h1, h2, h3, h4, h5, fun j hj => ?_⟩
    have := h6 j _ (List.getElem?_eq_getElem hj)
    rw [List.getD_eq_getElem?_getD, List.getElem?_eq_getElem hj]
    exact this
theorem isI_of_ints {w : World} {v : Value} {us : List Int} (h : IsInts w .i64 v us) : IsI w v us := by
  rcases h with h | ⟨b, off, cap, h1, h2, h3, h4, h5, h6⟩
  · exact Or.inl h
  · refine Or.inr ⟨b, off, cap, h1, h2, h3, h4, h5, fun j u hj => ?_⟩
    have hl := (List.getElem?_eq_some_iff.1 hj).1
    rw [h6 j hl, List.getD_eq_getElem?_getD, hj]
    rfl
theorem info_parts {z : Value} {t : TypeId} {s b : Nat} (h : (Try.prog.info? t).map (fun i => (i.zero, i.size, i.bytes)) = some (some z, s, b)) : ∃ i, Try.prog.info? t = some i ∧ i.zero = some z ∧ i.size = s ∧ i.bytes = b := by
  obtain ⟨i, hi, hzz⟩ := Option.map_eq_some_iff.1 h
  simp only [Prod.mk.injEq] at hzz
  exact ⟨i, hi, hzz.1, hzz.2.1, hzz.2.2⟩
set_option maxRecDepth 100000 in
set_option maxHeartbeats 4000000 in
theorem code_any (a : Bool) (t : Int) (da : Option Addr) (cap : Nat) (l : Bool) (us : List Int) (w : World) (hv : IsI w (.slice da us.length cap) us) (hno : da = none → cap = 0) (hl : us.length ≤ 1000000) :
    Calls Try.prog 23 #[pV a t (.slice da us.length cap) l] w fun e w' => ∃ v, e = .returned v ∧ IsI w' v (codeL (kindZ a t us.length l (numsB us)) t us) ∧ Below w.heap.size w w' := by
  obtain ⟨i0, hi, hz0, hz1, hz2⟩ := info_parts info_i64
  have HV := Lib.hid hv
  clear hv
  go_enter Try.func23, Try.ntmps23
  go_wp2_with fail
  refine calls_world (fun W => Below w.heap.size w W ∧ Blk W w.heap.size [.bool a, i6 t, .slice da us.length cap, .bool l]) ⟨by (repeat' (first | with_reducible exact Below.refl _ _ | with_reducible assumption | with_reducible refine q_alloc ?_ _ | with_reducible refine q_drew ?_ | with_reducible refine q_drewN _ ?_ | with_reducible refine q_setCell ?_ ?_ _ | (left; simp; done) | (right; simp; done) | (right; dsimp only; omega) | (left; dsimp only; omega))), Blk.new rfl⟩ ?_
  intro W1 ⟨hq1, b0⟩
  refine (kind_any a t (.slice da us.length cap) l us _ (HV.out.below hq1) hl).mono ?_
  rintro e w2 ⟨rfl, hb⟩
  replace b0 := b0.below hb
  have hq := q_step hq1 hb
  clear hb hq1
  obtain ⟨k, hk⟩ : ∃ k, kindZ a t us.length l (numsB us) = k := ⟨_, rfl⟩
  rw [hk]
  have HK := Lib.hid hk
  clear hk
  have c1 := b0.cell 1 rfl
  have c2 := b0.cell 2 rfl
  have z0 := b0.lt
  by_cases hk0 : k < 0
  · go_wp2_with fail
    go_returns
    exact ⟨_, rfl, by rw [HK.out]; unfold codeL; rw [if_pos hk0]; exact Or.inl ⟨_, _, rfl, rfl⟩, hq⟩
  · have hlit := own_lit2 w2 w2.heap.size k t (Nat.le_refl _)
    have hin : IsInts (w2.alloc (.cells #[i6 k, i6 t] 2)) .i64 (.slice da us.length cap) us := isI_ints (HV.out.below (q_alloc hq _))
    have HIN := Lib.hid hin
    have HNO := Lib.hid hno
    have HLI := Lib.hid hlit
    clear hin hno hlit
    go_wp2_with (first | (at_builtin; refine wpList_append_ints rfl _ _ 22 rfl w2.heap.size 2 i0 (i6 0) 8 .i64 und_i64s hi hz0 hz1 hz2 rfl (.slice (some ⟨w2.heap.size, 0, none⟩) 2 2) 2 [i6 k, i6 t] rfl HLI.out da us.length cap us rfl HIN.out rfl HNO.out ?c1 ?c2 ?c3 ?_))
    case c1 => unfold maxLen; omega
    case c2 => omega
    case c3 => simp
    intro v' w9 hown hgr _
    have hq9 : Below w.heap.size w w9 := (hq.alloc hq.size _).grown hgr (by have := hq.size; simp; omega) (fun j hj => by have := (HLI.out.lt j hj).1; have := hq.size; omega)
    have hI : IsI w9 v' (k :: t :: us) := ownL_is (B := w2.heap.size) (by
      have e1 : (k :: t :: us).length = 2 + us.length := by simp; omega
      unfold OwnL
      rw [e1]
      exact hown)
    clear hown hgr
    go_wp2_with fail
    go_returns
    have hfin : IsI w9 v' (codeL (kindZ a t us.length l (numsB us)) t us) := by rw [HK.out]; unfold codeL; rw [if_neg (by omega)]; exact hI
    exact ⟨v', rfl, hfin, hq9⟩
end Go.Proofs.Ytlaejolgjchfcaa
