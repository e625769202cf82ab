import Derived.Test.YtlofhbeifgaoeaaDoorRect29
import Derived.Deep.RegionHeld3
import Derived.BigQuiet
namespace Go.Proofs.YtlofhbeifgaoeaaDoor
open Go Go.RowKit
set_option linter.unusedSimpArgs false
set_option linter.unusedVariables false
theorem stick {w : World} {p : Addr} {v : Value} (h : w.cell? p = some v) : ∀ W, Below w.heap.size w W → W.cell? p = some v := fun _ hb => cell_below hb h
theorem isRects_form {w : World} {v : Value} {rs : List R4} (h : IsRects w v rs) : ∃ a cap, v = .slice a rs.length cap ∧ (0 < rs.length → ∃ b off, a = some ⟨b, off, none⟩ ∧ rs.length ≤ cap ∧ cap ≤ maxLen ∧ LayR w b off rs) := by
  rcases h with ⟨a, cap, rfl, rfl⟩ | ⟨b, off, cap, rfl, h1, h2, h3, h4, h5⟩
  · exact ⟨a, cap, rfl, fun h => by simp at h⟩
  · exact ⟨_, cap, rfl, fun _ => ⟨b, off, rfl, h2, h3, h5⟩⟩
theorem foldl_join : ∀ (rs : List R4) (X : R4), OkR X → rs.foldl (fun b r => joinR b (normR r)) X = joinR X (boxR rs)
  | [], X, _ => (join_zero X).symm
  | r :: rs, X, hX => by
    have h1 := foldl_join rs (joinR X (normR r)) (okR_join hX (okR_norm r))
    have h2 := foldl_join rs (joinR (0, 0, 0, 0) (normR r)) (okR_join okR_zero (okR_norm r))
    rw [zero_join (okR_norm r)] at h2
    show rs.foldl _ (joinR X (normR r)) = joinR X (rs.foldl _ (joinR (0, 0, 0, 0) (normR r)))
    rw [h1, zero_join (okR_norm r), h2, join_assoc hX (okR_norm r) (okR_box rs)]
theorem box_app (l m : List R4) : boxR (l ++ m) = joinR (boxR l) (boxR m) := by
  show (l ++ m).foldl _ _ = _
  rw [List.foldl_append]
  exact foldl_join m _ (okR_box l)
theorem box_parts (rs : List R4) (k : Nat) : boxR [boxR (rs.take k), boxR (rs.drop k)] = boxR rs := by
  rw [box_two, normR_ok (okR_box _), normR_ok (okR_box _), ← box_app, List.take_append_drop]
theorem box_rev : ∀ rs : List R4, boxR rs.reverse = boxR rs
  | [] => rfl
  | r :: rs => by
    rw [List.reverse_cons, box_app, box_rev rs, box_one, join_comm (okR_box rs) (okR_norm r), ← box_one, ← box_app]
    rfl
theorem box_mem (rs : List R4) (k : Nat) (r : R4) (h : rs[k]? = some r) : holdsR (normR (boxR rs)) (normR r) = true := by
  have hl := (List.getElem?_eq_some_iff.1 h).1
  have e : rs = (rs.take k ++ [r]) ++ rs.drop (k + 1) := by
    have h1 := List.take_append_drop (k + 1) rs
    rw [List.take_add_one, h] at h1
    exact h1.symm
  have hb : boxR rs = joinR (normR r) (joinR (boxR (rs.take k)) (boxR (rs.drop (k + 1)))) := by
    conv => lhs; rw [e]
    rw [box_app, box_app, box_one, join_comm (okR_box _) (okR_norm r), join_assoc (okR_norm r) (okR_box _) (okR_box _)]
  rw [normR_ok (okR_box rs), hb]
  exact (holds_join (okR_norm r) (okR_join (okR_box _) (okR_box _))).1
theorem addr_add4 (b off j : Nat) : (⟨b, off, none⟩ : Addr).add j = ⟨b, off + j, none⟩ := by unfold Addr.add; split <;> simp_all
theorem elem_rects : Tryd.prog.elem 34 = 23 := by kernel_rfl
theorem und_rects' : Tryd.prog.underlying 34 = some (.slice (Tryd.prog.elem 34)) := by rw [elem_rects]; exact und_rects
theorem size_rect4 (w : World) : (sizeOf (Tryd.prog.elem 34)).run Tryd.prog w = .ok 4 w := by rw [elem_rects]; kernel_rfl
theorem slice_take (a : Option Addr) (n cap k : Nat) (rs : List R4) (w0 : World) (h : IsRects w0 (.slice a n cap) rs) (hn : rs.length = n) (hk : k ≤ n) :
    ∃ v, (∀ w, (Instr.slice 34 (.slice a n cap) none (some (.int .i64 (k : Int))) none).run Tryd.prog w = .ok v w) ∧ IsRects w0 v (rs.take k) := by
  have hc : k ≤ cap := by
    rcases h with ⟨_, _, e, h0⟩ | ⟨_, _, _, e, _, h2, _⟩
    · rw [h0] at hn; simp at hn; omega
    · simp only [Value.slice.injEq] at e; omega
  refine ⟨sliced a 0 k cap 4, fun w => ?_, ?_⟩
  · rw [run_slice_h w _ a n cap und_rects' .i64 (k : Int) (by omega) (by omega), size_rect4]
    simp [Result.andThen]
  · unfold sliced
    by_cases h0 : k = 0
    · subst h0; exact Or.inl ⟨_, _, rfl, rfl⟩
    · rcases h with ⟨_, _, e, h1⟩ | ⟨b, off, cap', e, h1, h2, h3, h4, h5⟩
      · rw [h1] at hn; simp at hn; omega
      · simp only [Value.slice.injEq] at e
        obtain ⟨rfl, _, rfl⟩ := e
        have hl : (rs.take k).length = k := by rw [List.length_take]; omega
        refine Or.inr ⟨b, off, cap, ?_, by omega, by omega, h3, h4, fun j r hj => h5 j r ?_⟩
        · rw [if_neg (by omega), hl]; simp [addr_add4]
        · rw [List.getElem?_take] at hj; split at hj
          · exact hj
          · simp at hj
theorem slice_drop (a : Option Addr) (n cap k : Nat) (rs : List R4) (w0 : World) (h : IsRects w0 (.slice a n cap) rs) (hn : rs.length = n) (hk : k ≤ n) :
    ∃ v, (∀ w, (Instr.slice 34 (.slice a n cap) (some (.int .i64 (k : Int))) none none).run Tryd.prog w = .ok v w) ∧ IsRects w0 v (rs.drop k) := by
  refine ⟨sliced a k n cap 4, fun w => ?_, ?_⟩
  · rw [run_slice_l w _ a n cap und_rects' .i64 (k : Int) (by omega) (by omega), size_rect4]
    simp [Result.andThen]
  · unfold sliced
    by_cases h0 : k = n
    · subst h0; exact Or.inl ⟨_, _, by rw [Nat.sub_self], by rw [List.drop_eq_nil_iff]; omega⟩
    · rcases h with ⟨_, _, e, h1⟩ | ⟨b, off, cap', e, h1, h2, h3, h4, h5⟩
      · rw [h1] at hn; simp at hn; omega
      · simp only [Value.slice.injEq] at e
        obtain ⟨rfl, _, rfl⟩ := e
        have hl : (rs.drop k).length = n - k := by rw [List.length_drop]; omega
        refine Or.inr ⟨b, off + k * 4, cap - k, ?_, by omega, by omega, by omega, h4, fun j r hj => ?_⟩
        · rw [if_neg (by omega), hl]; simp [addr_add4]
        · rw [List.getElem?_drop] at hj
          have := h5 _ _ hj
          rw [show off + k * 4 + j * 4 = off + (k + j) * 4 by omega]
          exact this
theorem cellR_new {w : World} {r : R4} {t : TypeId} {fr : Nat × Nat} : ∀ j u, (cellR r)[j]? = some u → (w.alloc (.cells #[i6 r.1, i6 r.2.1, i6 r.2.2.1, i6 r.2.2.2] t fr)).cell? ((⟨w.heap.size, 0, none⟩ : Addr).add j) = some u := by
  intro j u hj
  rw [addr_add4, Nat.zero_add]
  exact cell_new (by simpa [cellR] using hj)
theorem ownR_below {w w' : World} {B : Nat} {v : Value} {rs : List R4} (h : OwnR w B v rs) (hb : Below w.heap.size w w') : OwnR w' B v rs := by
  obtain ⟨h0, hcase⟩ := h
  refine ⟨h0, ?_⟩
  rcases hcase with h1 | ⟨g, cap, cur, hv, hg, hh, hr⟩
  · exact .inl h1
  · exact .inr ⟨g, cap, cur, hv, hg, (hb.block g (Array.getElem?_eq_some_iff.1 hh).1).trans hh, hr⟩
set_option maxRecDepth 100000 in
set_option maxHeartbeats 16000000 in
theorem lmany_any (a0 : Option Addr) (cap : Nat) (rs : List R4) (c : Int) (w : World) (hs : RowAt 0 noneCells w) (hl : IsRects w (.slice a0 rs.length cap) rs) (hc0 : 0 ≤ c) (hc1 : c < 256) :
    Calls Tryd.prog 8 #[.slice a0 rs.length cap, .int .u8 c] w fun e w' => e = .returned (.bool true) ∧ Below w.heap.size w w' := by
  obtain ⟨i0, hi, hz0, hz1, hz2⟩ := info_parts info_rect
  have HS := Lib.hid hs
  have HI := Lib.hid hl
  clear hs hl
  go_enter Tryd.func8, Tryd.ntmps8
  go_wp2_with fail
  refine (awake12 _ HS.out).mono ?_
  rintro e w1 ⟨rfl, hq1⟩
  by_cases h100 : (100 : Int) < rs.length
  · go_wp2_with fail
    go_returns
    exact ⟨rfl, hq1⟩
  obtain ⟨K, hK⟩ : ∃ K : Nat, c.toNat % (rs.length + 1) = K := ⟨_, rfl⟩
  have hKn : K ≤ rs.length := by have := Nat.mod_lt c.toNat (show 0 < rs.length + 1 by omega); omega
  have f0 : IntKind.i64.wrap ((rs.length : Int) + 1) = (rs.length : Int) + 1 := IntWalk.i64_in _ (by omega)
  have f1 : c.tmod ((rs.length : Int) + 1) = (K : Int) := by rw [Int.tmod_eq_emod_of_nonneg hc0, ← hK, Int.natCast_emod, Int.toNat_of_nonneg hc0]; rfl
  have f2 : IntKind.i64.wrap c = c := IntWalk.i64_in _ (by omega)
  have f3 : IntKind.i64.wrap (K : Int) = (K : Int) := IntWalk.i64_in _ (by omega)
  have f4 : ¬ ((rs.length : Int) + 1 = 0) := by omega
  clear hK
  go_wp2_with fail
  refine (boxF _ rs _ (HS.out.below hq1) (HI.out.below hq1) (by omega)).mono ?_
  rintro e w2 ⟨rfl, hb⟩
  have hq2 := q_step hq1 hb
  clear hq1 hb f0 f1 f2 f3 f4 hc0 hc1
  have f5 : IntKind.i64.wrap ((rs.length : Int) - 1) = (rs.length : Int) - 1 := IntWalk.i64_in _ (by omega)
  go_upto_region 8 with fail
  refine code_world (fun W => Below w.heap.size w W ∧ Blk W w2.heap.size [i6 (boxR rs).1, i6 (boxR rs).2.1, i6 (boxR rs).2.2.1, i6 (boxR rs).2.2.2]) ⟨by (repeat' (first | with_reducible exact Below.refl _ _ | with_reducible assumption | with_reducible refine q_alloc ?_ _ | with_reducible refine q_drew ?_ | with_reducible refine q_drewN _ ?_ | with_reducible refine q_setCell ?_ ?_ _ | (left; simp; done) | (right; simp; done) | (right; dsimp only; omega) | (left; dsimp only; omega))), Blk.new rfl⟩ ?_
  intro W2 ⟨hq, hblk⟩
  have HSQ := Lib.hid (HS.out.below hq)
  have HIQ := Lib.hid (HI.out.below hq)
  have HQ := Lib.hid hq
  generalize w2.heap.size = C at hblk ⊢
  have x0 := stick (hblk.cell 0 rfl)
  have x1 := stick (hblk.cell 1 rfl)
  have x2 := stick (hblk.cell 2 rfl)
  have x3 := stick (hblk.cell 3 rfl)
  clear hq hq2 hblk HS HI
  have J : Below W2.heap.size W2 W2 := Below.refl _ _
  go_wp2_with fail
  go_loopw [7, 8] (fun v i wr => ∃ k : Nat, k ≤ rs.length ∧ i = .int .i64 ((k : Int) - 1) ∧ OwnR wr W2.heap.size v (rs.drop k).reverse ∧ Below W2.heap.size W2 wr)
    (fun v i _ => (intOf i + 1).toNat)
  case atStart => exact ⟨rs.length, Nat.le_refl _, rfl, by rw [List.drop_length]; exact World.ownsRow_nil _ _ _ _, J⟩
  case round =>
    clear J f5
    obtain ⟨k, hk, rfl, hown, J⟩ := hrel
    by_cases hlt : 0 < k
    · obtain ⟨j, rfl⟩ : ∃ j, k = j + 1 := ⟨k - 1, by omega⟩
      have hij : (((j + 1 : Nat) : Int) - 1) = (j : Int) := by omega
      rw [hij]
      obtain ⟨aa, cc, he, hform⟩ := isRects_form HIQ.out
      simp only [Value.slice.injEq] at he
      obtain ⟨rfl, _, rfl⟩ := he
      obtain ⟨bb, off, rfl, hca, hcb, hlay⟩ := hform (by omega)
      have hlk : rs[j]? = some rs[j] := List.getElem?_eq_getElem (by omega)
      obtain ⟨d0, d1, d2, d3⟩ := hlay j _ hlk
      replace d0 := stick d0
      replace d1 := stick d1
      replace d2 := stick d2
      replace d3 := stick d3
      have hho := box_mem rs j _ hlk
      have hdr : (rs.drop j).reverse = (rs.drop (j + 1)).reverse ++ [rs[j]] := by rw [List.drop_eq_getElem_cons (by omega), List.reverse_cons]
      clear hlay hlk
      generalize rs[j] = re at d0 d1 d2 d3 hho hdr
      have HHO := Lib.hid hho
      have HDR := Lib.hid hdr
      have hrl : (rs.drop (j + 1)).reverse.length ≤ 100 := by rw [List.length_reverse, List.length_drop]; omega
      have HRL := Lib.hid hrl
      generalize (rs.drop (j + 1)).reverse = bk at hown HDR HRL
      have hjl : (j : Int) < rs.length := by omega
      have hj0 : (0 : Int) ≤ j := by omega
      have f6 : IntKind.i64.wrap ((j : Int) - 1) = (j : Int) - 1 := IntWalk.i64_in _ (by omega)
      have HCA := Lib.hid hca
      have HCB := Lib.hid hcb
      have HIJ := Lib.hid hij
      clear hho hdr hrl hca hcb hij hform h100
      go_upto_region 11 with fail
      go_region_held3 (fun w' => Below W2.heap.size W2 w')
        (first | exact J | exact J.drew | exact q_alloc J _ | exact q_alloc J.drew _ | (exact by (repeat' (first | with_reducible exact Below.refl _ _ | with_reducible assumption | with_reducible refine q_alloc ?_ _ | with_reducible refine q_drew ?_ | with_reducible refine q_drewN _ ?_ | with_reducible refine q_setCell ?_ ?_ _ | (left; simp; done) | (right; simp; done) | (right; dsimp only; omega) | (left; dsimp only; omega)))))
        (first
          | (go_at_call 16; with_reducible refine (holdsF (boxR rs) re _ ?_).mono ?_; (exact HSQ.out.below (by first | exact J | exact J.drew | exact q_alloc J _ | exact q_alloc J.drew _ | (exact by (repeat' (first | with_reducible exact Below.refl _ _ | with_reducible assumption | with_reducible refine q_alloc ?_ _ | with_reducible refine q_drew ?_ | with_reducible refine q_drewN _ ?_ | with_reducible refine q_setCell ?_ ?_ _ | (left; simp; done) | (right; simp; done) | (right; dsimp only; omega) | (left; dsimp only; omega)))))); rintro e w5 ⟨rfl, hb⟩; rw [HHO.out]; have hown5 := ownR_below (ownR_below hown (by first | exact (Below.refl _ _).drew | exact Below.refl _ _)) hb; have J5 : Below W2.heap.size W2 w5 := q_step (by first | exact J | exact J.drew | exact q_alloc J _ | exact q_alloc J.drew _ | (exact by (repeat' (first | with_reducible exact Below.refl _ _ | with_reducible assumption | with_reducible refine q_alloc ?_ _ | with_reducible refine q_drew ?_ | with_reducible refine q_drewN _ ?_ | with_reducible refine q_setCell ?_ ?_ _ | (left; simp; done) | (right; simp; done) | (right; dsimp only; omega) | (left; dsimp only; omega))))) hb; replace J := J5; clear J5 hb))
      clear hown x0 x1 x2 x3
      go_wp2_with (at_builtin; refine wpList_append_own _ rfl _ _ 34 rfl W2.heap.size 23 i0 (.agg #[i6 0, i6 0, i6 0, i6 0]) 4 32 und_rects hi hz0 hz1 hz2 rfl (by decide) _ _ _ rfl (hown5.alloc _) ⟨w5.heap.size, 0, none⟩ 1 1 (cellR re) rfl rfl cellR_new cellR_one ?c3 ?c4 ?c5 ?_)
      case c3 => have := HRL.out; unfold maxLen; omega
      case c4 => have := HRL.out; omega
      case c5 => have := J.size; simp; omega
      intro v' w9 hown' hgrow _
      have J9 : Below W2.heap.size W2 w9 := (J.alloc J.size _).grown hgrow (by have := J.size; simp; omega) (fun j hj => (hown5.lt j hj).1)
      have hown9 : OwnR w9 W2.heap.size v' ((rs.drop j).reverse) := by
        unfold OwnR
        rw [HDR.out, cellsR_snoc, List.length_append]
        exact hown'
      clear hown' hgrow hown5 J
      go_wp2_with fail
      go_roundw
      case rel => exact ⟨j, by omega, by go_num, hown9, J9⟩
      case measure => (simp [intOf] <;> omega)
    · obtain rfl : k = 0 := by omega
      rw [List.drop_zero] at hown
      have hbk := ownR_is hown
      obtain ⟨v1, hs1, hi1⟩ := slice_take a0 _ cap K rs W2 HIQ.out rfl hKn
      obtain ⟨v2, hs2, hi2⟩ := slice_drop a0 _ cap K rs W2 HIQ.out rfl hKn
      have hl1 : (rs.take K).length ≤ 100000 := by rw [List.length_take]; omega
      have hl2 : (rs.drop K).length ≤ 100000 := by rw [List.length_drop]; omega
      have hl3 : rs.reverse.length ≤ 100000 := by rw [List.length_reverse]; omega
      have HL1 := Lib.hid hl1
      have HL2 := Lib.hid hl2
      have HL3 := Lib.hid hl3
      obtain ⟨W0, rfl⟩ : ∃ W0 : World, W0 = wr := ⟨_, rfl⟩
      have HI1 := Lib.hid (hi1.below J)
      have HI2 := Lib.hid (hi2.below J)
      have HI3 := Lib.hid hbk
      have HSW := Lib.hid (HSQ.out.below J)
      have HQW := Lib.hid (q_step HQ.out J)
      have HP := Lib.hid (box_parts rs K)
      have HR := Lib.hid (box_rev rs)
      have y0 := fun W h => x0 W (q_step J h)
      have y1 := fun W h => x1 W (q_step J h)
      have y2 := fun W h => x2 W (q_step J h)
      have y3 := fun W h => x3 W (q_step J h)
      clear x0 x1 x2 x3 hown hbk hi1 hi2 hl1 hl2 hl3 hk hlt J HSQ HIQ HQ h100 hKn
      have J : Below W0.heap.size W0 W0 := Below.refl _ _
      have n1 := reql_self (boxR rs)
      have hm1 : (((0 : Nat) : Int) - 1) = -1 := by omega
      rw [hm1]
      go_upto_region 14 with fail
      go_region_held3 (fun w' => Below W0.heap.size W0 w')
        (first | exact J | exact J.drew | exact q_alloc J _ | exact q_alloc J.drew _ | (exact by (repeat' (first | with_reducible exact Below.refl _ _ | with_reducible assumption | with_reducible refine q_alloc ?_ _ | with_reducible refine q_drew ?_ | with_reducible refine q_drewN _ ?_ | with_reducible refine q_setCell ?_ ?_ _ | (left; simp; done) | (right; simp; done) | (right; dsimp only; omega) | (left; dsimp only; omega)))))
        (first
          | (go_at_call 25; with_reducible refine (boxF v1 (rs.take K) _ ?_ ?_ HL1.out).mono ?_; (exact HSW.out.below (by first | exact J | exact J.drew | exact q_alloc J _ | exact q_alloc J.drew _ | (exact by (repeat' (first | with_reducible exact Below.refl _ _ | with_reducible assumption | with_reducible refine q_alloc ?_ _ | with_reducible refine q_drew ?_ | with_reducible refine q_drewN _ ?_ | with_reducible refine q_setCell ?_ ?_ _ | (left; simp; done) | (right; simp; done) | (right; dsimp only; omega) | (left; dsimp only; omega)))))); (exact HI1.out.below (by first | exact J | exact J.drew | exact q_alloc J _ | exact q_alloc J.drew _ | (exact by (repeat' (first | with_reducible exact Below.refl _ _ | with_reducible assumption | with_reducible refine q_alloc ?_ _ | with_reducible refine q_drew ?_ | with_reducible refine q_drewN _ ?_ | with_reducible refine q_setCell ?_ ?_ _ | (left; simp; done) | (right; simp; done) | (right; dsimp only; omega) | (left; dsimp only; omega)))))); rintro e w5 ⟨rfl, hb⟩; have J5 : Below W0.heap.size W0 w5 := q_step (by first | exact J | exact J.drew | exact q_alloc J _ | exact q_alloc J.drew _ | (exact by (repeat' (first | with_reducible exact Below.refl _ _ | with_reducible assumption | with_reducible refine q_alloc ?_ _ | with_reducible refine q_drew ?_ | with_reducible refine q_drewN _ ?_ | with_reducible refine q_setCell ?_ ?_ _ | (left; simp; done) | (right; simp; done) | (right; dsimp only; omega) | (left; dsimp only; omega))))) hb; replace J := J5; clear J5)
          | (go_at_call 25; with_reducible refine (boxF v2 (rs.drop K) _ ?_ ?_ HL2.out).mono ?_; (exact HSW.out.below (by first | exact J | exact J.drew | exact q_alloc J _ | exact q_alloc J.drew _ | (exact by (repeat' (first | with_reducible exact Below.refl _ _ | with_reducible assumption | with_reducible refine q_alloc ?_ _ | with_reducible refine q_drew ?_ | with_reducible refine q_drewN _ ?_ | with_reducible refine q_setCell ?_ ?_ _ | (left; simp; done) | (right; simp; done) | (right; dsimp only; omega) | (left; dsimp only; omega)))))); (exact HI2.out.below (by first | exact J | exact J.drew | exact q_alloc J _ | exact q_alloc J.drew _ | (exact by (repeat' (first | with_reducible exact Below.refl _ _ | with_reducible assumption | with_reducible refine q_alloc ?_ _ | with_reducible refine q_drew ?_ | with_reducible refine q_drewN _ ?_ | with_reducible refine q_setCell ?_ ?_ _ | (left; simp; done) | (right; simp; done) | (right; dsimp only; omega) | (left; dsimp only; omega)))))); rintro e w5 ⟨rfl, hb⟩; have J5 : Below W0.heap.size W0 w5 := q_step (by first | exact J | exact J.drew | exact q_alloc J _ | exact q_alloc J.drew _ | (exact by (repeat' (first | with_reducible exact Below.refl _ _ | with_reducible assumption | with_reducible refine q_alloc ?_ _ | with_reducible refine q_drew ?_ | with_reducible refine q_drewN _ ?_ | with_reducible refine q_setCell ?_ ?_ _ | (left; simp; done) | (right; simp; done) | (right; dsimp only; omega) | (left; dsimp only; omega))))) hb; replace J := J5; clear J5)
          | (go_at_call 25; with_reducible refine (boxF _ [boxR (rs.take K), boxR (rs.drop K)] _ ?_ ?_ (by simp)).mono ?_; (exact HSW.out.below (by first | exact J | exact J.drew | exact q_alloc J _ | exact q_alloc J.drew _ | (exact by (repeat' (first | with_reducible exact Below.refl _ _ | with_reducible assumption | with_reducible refine q_alloc ?_ _ | with_reducible refine q_drew ?_ | with_reducible refine q_drewN _ ?_ | with_reducible refine q_setCell ?_ ?_ _ | (left; simp; done) | (right; simp; done) | (right; dsimp only; omega) | (left; dsimp only; omega)))))); (exact isR2 _ _ (by first | exact Blk.new rfl | exact (Blk.new rfl).alloc _ | exact blk_new1 rfl | exact Blk.below (Blk.new rfl) (by assumption) | exact Blk.below ((Blk.new rfl).alloc _) (by assumption) | exact Blk.below (blk_new1 rfl) (by assumption) | exact (Blk.new rfl).drew | exact (Blk.below (Blk.new rfl) (by assumption)).alloc _)); rintro e w5 ⟨rfl, hb⟩; rw [HP.out]; have J5 : Below W0.heap.size W0 w5 := q_step (by first | exact J | exact J.drew | exact q_alloc J _ | exact q_alloc J.drew _ | (exact by (repeat' (first | with_reducible exact Below.refl _ _ | with_reducible assumption | with_reducible refine q_alloc ?_ _ | with_reducible refine q_drew ?_ | with_reducible refine q_drewN _ ?_ | with_reducible refine q_setCell ?_ ?_ _ | (left; simp; done) | (right; simp; done) | (right; dsimp only; omega) | (left; dsimp only; omega))))) hb; replace J := J5; clear J5)
          | (go_at_call 25; with_reducible refine (boxF _ rs.reverse _ ?_ ?_ HL3.out).mono ?_; (exact HSW.out.below (by first | exact J | exact J.drew | exact q_alloc J _ | exact q_alloc J.drew _ | (exact by (repeat' (first | with_reducible exact Below.refl _ _ | with_reducible assumption | with_reducible refine q_alloc ?_ _ | with_reducible refine q_drew ?_ | with_reducible refine q_drewN _ ?_ | with_reducible refine q_setCell ?_ ?_ _ | (left; simp; done) | (right; simp; done) | (right; dsimp only; omega) | (left; dsimp only; omega)))))); (exact HI3.out.below (by first | exact J | exact J.drew | exact q_alloc J _ | exact q_alloc J.drew _ | (exact by (repeat' (first | with_reducible exact Below.refl _ _ | with_reducible assumption | with_reducible refine q_alloc ?_ _ | with_reducible refine q_drew ?_ | with_reducible refine q_drewN _ ?_ | with_reducible refine q_setCell ?_ ?_ _ | (left; simp; done) | (right; simp; done) | (right; dsimp only; omega) | (left; dsimp only; omega)))))); rintro e w5 ⟨rfl, hb⟩; rw [HR.out]; have J5 : Below W0.heap.size W0 w5 := q_step (by first | exact J | exact J.drew | exact q_alloc J _ | exact q_alloc J.drew _ | (exact by (repeat' (first | with_reducible exact Below.refl _ _ | with_reducible assumption | with_reducible refine q_alloc ?_ _ | with_reducible refine q_drew ?_ | with_reducible refine q_drewN _ ?_ | with_reducible refine q_setCell ?_ ?_ _ | (left; simp; done) | (right; simp; done) | (right; dsimp only; omega) | (left; dsimp only; omega))))) hb; replace J := J5; clear J5))
      all_goals
        go_wp2_with fail
        have hqe := q_step HQW.out J
        go_returns
        exact ⟨by first | rfl | simp, hqe⟩
theorem lmany_len (a0 : Option Addr) (n cap : Nat) (rs : List R4) (c : Int) (w : World) (hn : rs.length = n) (hs : RowAt 0 noneCells w) (hl : IsRects w (.slice a0 n cap) rs) (hc0 : 0 ≤ c) (hc1 : c < 256) :
    Calls Tryd.prog 8 #[.slice a0 n cap, .int .u8 c] w fun e w' => e = .returned (.bool true) ∧ Below w.heap.size w w' := by
  subst hn
  exact lmany_any a0 cap rs c w hs hl hc0 hc1
end Go.Proofs.YtlofhbeifgaoeaaDoor
