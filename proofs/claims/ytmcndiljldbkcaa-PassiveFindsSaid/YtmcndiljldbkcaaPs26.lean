/- Layer 38: has a table just these; ids as the document's. -/
import Derived.Test.YtmcndiljldbkcaaPs25
import Derived.Test.YtmcndiljldbkcaaPs17
import Derived.Test.YtmcndiljldbkcaaPs11
namespace Go.Proofs.Ytmcndiljldbkcaa
open Go Go.RowKit Go.Maps
set_option linter.unusedSimpArgs false
set_option linter.unusedVariables false
set_option maxRecDepth 100000 in
set_option maxHeartbeats 8000000 in
theorem all_true (tv lv : Value) (gs : List G) (w : World) (ht : TabG w tv gs) (hv : IsG w lv gs) (hl : gs.length ≤ 1000) :
    Calls Try.prog 25 #[.agg #[tv], lv] w fun e w' => e = .returned (.bool true) ∧ Below w.heap.size w w' := by
  obtain ⟨A, cap, rfl, hf⟩ := hv
  have HF := Lib.hid hf
  have HT := Lib.hid ht
  obtain ⟨tA, tcap, rfl, _⟩ := ht.is
  clear hf ht
  obtain ⟨n, hn⟩ : ∃ n, gs.length = n := ⟨_, rfl⟩
  rw [hn] at HF HT hl ⊢
  have HN := Lib.hid hn
  clear hn
  go_enter Try.func25, Try.ntmps25
  go_wp2_with fail
  refine calls_world (fun W => Below w.heap.size w W) (by (repeat' (first | with_reducible exact Below.refl _ _ | with_reducible assumption | with_reducible refine q_alloc ?_ _ | with_reducible refine q_drew ?_ | with_reducible refine q_drewN _ ?_ | with_reducible refine q_setCell ?_ ?_ _ | (left; simp; done) | (right; simp; done) | (right; dsimp only; omega) | (left; dsimp only; omega)))) ?_
  intro W1 hq1
  refine (all_any _ gs _ (HT.out.below hq1) (by rw [HN.out]; exact hl)).mono ?_
  rintro e w5 ⟨v5, rfl, ho5, hb⟩
  have is5 := ownG_is ho5
  have HQ5 := Lib.hid (q_step hq1 hb)
  obtain ⟨A3, cap3, rfl, hf5⟩ := is5
  have HF5 := Lib.hid hf5
  rw [HN.out] at HF5 ⊢
  clear hf5 ho5 hb hq1
  go_wp2_with fail
  go_loopw [6] (fun i wr => ∃ k : Nat, k ≤ n ∧ i = .int .i64 k ∧ Below w5.heap.size w5 wr)
    (fun i _ => n - (intOf i).toNat)
  case atStart => exact ⟨0, Nat.zero_le _, rfl, Below.refl _ _⟩
  case round =>
    obtain ⟨k, hk, rfl, J⟩ := hrel
    by_cases hlt : k < n
    · obtain ⟨b, off, rfl, hb, hlay⟩ := HF.out (by omega)
      obtain ⟨b2, off2, rfl, hb2, hlay2⟩ := HF5.out (by omega)
      obtain ⟨x, hx⟩ : ∃ x, gs[k]? = some x := ⟨_, List.getElem?_eq_getElem (by rw [HN.out]; exact hlt)⟩
      have hki : (k : Int) < (n : Int) := by omega
      have hlx := fun j u hj => cell_below HQ5.out (hlay k x hx j u hj)
      have hly := fun j u hj => hlay2 k x hx j u hj
      obtain ⟨a0, a1, a2, a3, a4, a5, a6, a7, a8⟩ := x
      have d0 := stick (hlx 0 _ rfl)
      have e0 := stick (hly 0 _ rfl)
      have d1 := stick (hlx 1 _ rfl)
      have e1 := stick (hly 1 _ rfl)
      have d2 := stick (hlx 2 _ rfl)
      have e2 := stick (hly 2 _ rfl)
      have d3 := stick (hlx 3 _ rfl)
      have e3 := stick (hly 3 _ rfl)
      have d4 := stick (hlx 4 _ rfl)
      have e4 := stick (hly 4 _ rfl)
      have d5 := stick (hlx 5 _ rfl)
      have e5 := stick (hly 5 _ rfl)
      have d6 := stick (hlx 6 _ rfl)
      have e6 := stick (hly 6 _ rfl)
      have d7 := stick (hlx 7 _ rfl)
      have e7 := stick (hly 7 _ rfl)
      have d8 := stick (hlx 8 _ rfl)
      have e8 := stick (hly 8 _ rfl)
      rw [Nat.add_zero] at d0 e0
      dsimp only at d0 d1 d2 d3 d4 d5 d6 d7 d8 e0 e1 e2 e3 e4 e5 e6 e7 e8
      clear hlx hly hlay hlay2 hx
      go_upto_region 7 with fail
      go_cut [29] from 18 to 30 (fun s wx => s = .bool false ∧ Below w5.heap.size w5 wx)
      case first =>
        go_region_held3 (fun w' => Below w5.heap.size w5 w')
          (first | with_reducible exact J | with_reducible exact J.drew | with_reducible exact q_alloc J _ | with_reducible exact q_alloc J.drew _ | ((repeat' (first | with_reducible exact Below.refl _ _ | with_reducible assumption | with_reducible refine q_alloc ?_ _ | with_reducible refine q_drew ?_ | with_reducible refine q_drewN _ ?_ | with_reducible refine q_setCell ?_ ?_ _ | (left; simp; done) | (right; simp; done) | (right; dsimp only; omega) | (left; dsimp only; omega))); done))
          (first
            | (go_at_call 16; refine (of9 _ _ _ _ _ _ _ _ _ _).mono ?_; rintro e w6 ⟨rfl, hb⟩; have J5 : Below w5.heap.size w5 w6 := q_step (by first | with_reducible exact J | with_reducible exact J.drew | with_reducible exact q_alloc J _ | with_reducible exact q_alloc J.drew _ | ((repeat' (first | with_reducible exact Below.refl _ _ | with_reducible assumption | with_reducible refine q_alloc ?_ _ | with_reducible refine q_drew ?_ | with_reducible refine q_drewN _ ?_ | with_reducible refine q_setCell ?_ ?_ _ | (left; simp; done) | (right; simp; done) | (right; dsimp only; omega) | (left; dsimp only; omega))); done)) hb; replace J := J5; clear J5 hb))
        all_goals (go_wp2_with fail; go_meet; exact ⟨by first | rfl | (simp; done), by (repeat' (first | with_reducible exact Below.refl _ _ | with_reducible assumption | with_reducible refine q_alloc ?_ _ | with_reducible refine q_drew ?_ | with_reducible refine q_drewN _ ?_ | with_reducible refine q_setCell ?_ ?_ _ | (left; simp; done) | (right; simp; done) | (right; dsimp only; omega) | (left; dsimp only; omega)))⟩)
      case rest =>
        obtain ⟨rfl, J4⟩ := hcut
        obtain ⟨W4, rfl⟩ : ∃ W : World, W = wc := ⟨_, rfl⟩
        replace J := J4
        clear J4
        go_wp2_with fail
        go_roundw
        case rel => exact ⟨k + 1, by omega, by go_num, J⟩
        case measure => simp [intOf] <;> omega
    · obtain rfl : k = n := by omega
      go_wp2_with fail
      go_returns
      exact ⟨by first | rfl | (simp; done), q_step HQ5.out J⟩
abbrev uV (n : Int) : Value := .int .u32 n
theorem info_u32 : (Try.prog.info? 32).map (fun i => (i.zero, i.size, i.bytes)) = some (some (uV 0), 1, 4) := by kernel_rfl
theorem und_u32s : Try.prog.underlying 42 = some (.slice 32) := by kernel_rfl
abbrev OwnU (w : World) (B : Nat) (v : Value) (us : List Int) : Prop := w.ownsRow B 32 1 v us.length (us.map uV)
theorem ownU_ints {w : World} {B : Nat} {v : Value} {us : List Int} (h : OwnU w B v us) : IsInts w .u32 v us := by
  rcases Nat.eq_zero_or_pos us.length with h0 | hp
  · have : us = [] := List.eq_nil_of_length_eq_zero h0
    subst this
    obtain ⟨a, c, rfl⟩ := own_sl h
    exact Or.inl ⟨_, _, rfl, rfl⟩
  · obtain ⟨g, cap, rfl⟩ := Joins.ownsRow_form h hp
    have hlt := h.lt g rfl
    have hc := h.2
    rcases hc with ⟨hx, _⟩ | ⟨g', cap', cur, hv, _, _, hn, hm, _⟩
    · simp at hx
    · simp only [Value.slice.injEq] at hv
      obtain ⟨_, _, rfl⟩ := hv
      refine Or.inr ⟨g, 0, cap, rfl, hp, hn, hm, hlt.2, fun j hj => ?_⟩
      rw [Nat.zero_add]
      refine (h.cellAt j (by omega)).trans ?_
      rw [List.getElem?_map, List.getElem?_eq_getElem hj, List.getD_eq_getElem?_getD, List.getElem?_eq_getElem hj]
      rfl
set_option maxRecDepth 100000 in
set_option maxHeartbeats 4000000 in
theorem ids_any (ia : Option Addr) (n cap : Nat) (is : List Int) (w : World) (hs : IsInts w .u32 (.slice ia n cap) is) (hn : is.length = n) (hu : ∀ u ∈ is, 0 ≤ u ∧ u < 4294967296) (hl : n ≤ 1000) :
    Calls Try.prog 15 #[.slice ia n cap] w fun e w' => ∃ a c, e = .returned (.slice a n c) ∧ IsInts w' .u32 (.slice a n c) is ∧ Below w.heap.size w w' := by
  obtain ⟨i0, hi, hz0, hz1, hz2⟩ := info_parts info_u32
  have HS := Lib.hid hs
  have HN := Lib.hid hn
  have HU := Lib.hid hu
  clear hs hn hu
  go_enter Try.func15, Try.ntmps15
  go_wp2_with fail
  go_loopw [3, 4] (fun v i wr => ∃ k : Nat, k ≤ n ∧ i = .int .i64 k ∧ wr.ownsRow w.heap.size 32 1 v k ((is.map uV).take k) ∧ Below w.heap.size w wr)
    (fun _ i _ => n - (intOf i).toNat)
  case atStart => exact ⟨0, Nat.zero_le _, rfl, World.ownsRow_nil _ _ _ _, Below.refl _ _⟩
  case round =>
    obtain ⟨k, hk, rfl, hown, hq⟩ := hrel
    by_cases hlt : k < n
    · have hki : (k : Int) < n := by omega
      obtain ⟨b, off, rfl, hcs⟩ := cell_u3 HS.out HN.out (by omega)
      obtain ⟨u, hx⟩ : ∃ u, is[k]? = some u := ⟨_, List.getElem?_eq_getElem (by rw [HN.out]; exact hlt)⟩
      have hub := HU.out u (List.mem_of_getElem? hx)
      have y0 := cell_below hq (hcs k u hx)
      have HX : Hid ((is.map uV).take (k + 1) = (is.map uV).take k ++ [uV u]) := Lib.hid (by rw [List.take_add_one, List.getElem?_map, hx]; rfl)
      have r1 : IntKind.u32.wrap u = u := by simp only [IntKind.wrap, IntKind.bits, IntKind.signed]; simp; omega
      obtain ⟨hu0, hu1⟩ := hub
      clear hcs hx
      go_wp2_with (first
        | (at_builtin; refine wpList_append_own _ rfl _ _ 42 rfl w.heap.size 32 i0 (uV 0) 1 4 und_u32s hi hz0 hz1 hz2 rfl (by decide) _ _ _ rfl (hown.alloc _) ⟨wr.heap.size, 0, none⟩ 1 1 [uV u] rfl rfl ?c1 ?c2 ?c3 ?c4 ?c5 ?_))
      case c1 =>
        intro j z hj
        match j, hj with
        | 0, hj => simp at hj; subst hj; exact cell_new rfl
      case c2 => intro z hz; simp at hz; subst hz; rfl
      case c3 => unfold maxLen; omega
      case c4 => omega
      case c5 => have := hq.size; simp; omega
      intro v' w1 hown' hgrow _
      have hb1 : Below w.heap.size w w1 := (hq.alloc hq.size _).grown hgrow (by have := hq.size; simp; omega) (fun j hj => (hown.lt j hj).1)
      have hown2 : w1.ownsRow w.heap.size 32 1 v' (k + 1) ((is.map uV).take (k + 1)) := by
        rw [HX.out]; exact hown'
      clear hown' hgrow hown hq y0
      go_wp2_with fail
      go_roundw
      case rel => exact ⟨k + 1, by omega, by go_num, hown2, hb1⟩
      case measure => simp [intOf] <;> omega
    · obtain rfl : k = n := by omega
      have ho : OwnU wr w.heap.size u3 is := by
        rw [List.take_of_length_le (by rw [List.length_map, HN.out]; exact Nat.le_refl _)] at hown
        unfold OwnU
        rw [HN.out]
        exact hown
      have hi1 := ownU_ints ho
      obtain ⟨va, vc, rfl⟩ : ∃ va vc, u3 = .slice va k vc := by
        rcases Joins.ownsRow_forms hown with ⟨rfl, h0⟩ | ⟨g, c, rfl⟩
        · exact ⟨none, 0, by rw [h0]⟩
        · exact ⟨_, _, rfl⟩
      have HI1 := Lib.hid hi1
      clear hown ho hi1
      go_wp2_with fail
      go_returns
      exact ⟨_, _, rfl, HI1.out, hq⟩
end Go.Proofs.Ytmcndiljldbkcaa
