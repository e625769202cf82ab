/- Layer 39: the example. -/
import Derived.Test.YtgcedookbblibaaFz7
import Derived.Test.YtgcedookbblibaaRow2
namespace Go.Proofs.Ytgcedookbblibaa
open Go Go.RowKit
set_option linter.unusedSimpArgs false
set_option linter.unusedVariables false
theorem lit_in3 : ∀ W, (Instr.buildSlice 30 3 #[(0, .agg #[i6 5, i6 0, i6 0, i6 0, uw 0, i6 1]), (1, .agg #[i6 3, i6 1, i6 0, i6 0, uw 0, i6 2]), (2, .agg #[i6 3, i6 1, i6 0, i6 0, uw 0, i6 3])]).run Try.prog W = .ok (.slice (some ⟨W.heap.size, 0, none⟩) 3 3) (W.alloc (.cells (List.toArray [i6 5, i6 0, i6 0, i6 0, uw 0, i6 1, i6 3, i6 1, i6 0, i6 0, uw 0, i6 2, i6 3, i6 1, i6 0, i6 0, uw 0, i6 3]) 29)) := by
  intro W
  obtain ⟨i0', hi, hz0, hz1, hz2⟩ := row_info clone_info
  simp [Instr.buildSlice, run_underlying clone_und, sizeOf, typeInfo, zeroValue, hi, hz0, hz1, Instr.fill, Value.cells, newRow, go_sem]
theorem next_at (d0 d1 : Int) (d2 : Bool) (d3 : Int) (d4 d5 : Bool) (d6 d7 : Int) (d8 d10 : Bool) (d11 d12 d13 d14 d15 d16 : Int) (d17 : Bool) (n c : Nat) (ws : List In) (b o : Nat) (i0 i1 i2 i3 i4 i5 : Int) (w : World) (hn : ws.length = n) (hc : n ≤ c) (hx : ws[0]? = some ⟨i0, i1, i2, i3, i4, i5⟩) (hB : cellsR inL ws ≠ [] → b < w.heap.size ∧ w.rangeAt b o (cellsR inL ws)) (hl : n ≤ 1000) (f s : Bool) (A : Option Addr) (hf : (d10 && pressB i0) = f) (hs : (d10 && !pressB i0) = s) (hA : tailA c b o = A) :
    Calls Try.prog 18 #[.agg #[i6 d0, uw d1, .bool d2, i6 d3, .bool d4, .bool d5, i6 d6, uw d7, .bool d8, .bool false, .bool d10, i6 d11, i6 d12, i6 d13, i6 d14, uw d15, i6 d16, .bool d17, .slice (some ⟨b, o, none⟩) n c]] w fun e w' => e = .returned (.tuple #[.agg #[i6 d0, uw d1, .bool d2, i6 d3, .bool d4, .bool d5, i6 d6, uw d7, .bool d8, .bool f, .bool s, i6 d11, i6 d12, i6 d13, i6 d14, uw d15, i6 d16, .bool d17, .slice A (n - 1) (c - 1)], .agg #[i6 i0, i6 i1, i6 i2, i6 i3, uw i4, i6 i5], .bool true]) ∧ Below w.heap.size w w' := by
  subst hf hs hA
  exact next_some d0 d1 d2 d3 d4 d5 d6 d7 d8 d10 d11 d12 d13 d14 d15 d16 d17 n c ws b o i0 i1 i2 i3 i4 i5 w hn hc hx hB hl
set_option maxRecDepth 100000 in
set_option maxHeartbeats 16000000 in
theorem awake39 (w : World) : Calls Try.prog 8 #[] w fun e w' => e = .returned (.bool true) ∧ Below w.heap.size w w' := by
  go_enter Try.func8, Try.ntmps8
  have HO := Own.nil w
  go_wp2_with (first
      | (with_reducible refine own_at_box 32 ?_; refine ob_0 HO _ rfl ?_; intro nB WB HOn; (try simp only [List.cons_append, List.nil_append] at HOn); clear HO; have HO := HOn; clear HOn)
      | (with_reducible refine own_at_alloc 32 ?_; refine oa_0 HO ?_; intro nB WB HOn; (try simp only [List.cons_append, List.nil_append] at HOn); clear HO; have HO := HOn; clear HOn)
      | (with_reducible refine own_at_load 32 ?_; first | refine ol_0 HO rfl _ _ rfl (by repeat first | apply Has.head | apply Has.tail) rfl ?_ | refine op_0 HO rfl _ _ _ _ rfl (by repeat first | apply Has.head | apply Has.tail) (by repeat first | apply Part.done | apply Part.take | apply Part.skip) ?_)
      | (with_reducible refine own_at_store 32 ?_; refine os_0 HO _ rfl rfl _ _ rfl (by repeat first | apply Sto.head | apply Sto.tail | apply Patch.put | apply Patch.skip | apply Patch.done) rfl ?_; intro WB HOn; clear HO; have HO := HOn; clear HOn)
      | (with_reducible refine own_at_box 27 ?_; refine ob_1 HO _ rfl ?_; intro nB WB HOn; (try simp only [List.cons_append, List.nil_append] at HOn); clear HO; have HO := HOn; clear HOn)
      | (with_reducible refine own_at_alloc 27 ?_; refine oa_1 HO ?_; intro nB WB HOn; (try simp only [List.cons_append, List.nil_append] at HOn); clear HO; have HO := HOn; clear HOn)
      | (with_reducible refine own_at_load 27 ?_; first | refine ol_1 HO rfl _ _ rfl (by repeat first | apply Has.head | apply Has.tail) rfl ?_ | refine op_1 HO rfl _ _ _ _ rfl (by repeat first | apply Has.head | apply Has.tail) (by repeat first | apply Part.done | apply Part.take | apply Part.skip) ?_)
      | (with_reducible refine own_at_store 27 ?_; refine os_1 HO _ rfl rfl _ _ rfl (by repeat first | apply Sto.head | apply Sto.tail | apply Patch.put | apply Patch.skip | apply Patch.done) rfl ?_; intro WB HOn; clear HO; have HO := HOn; clear HOn)
      | (with_reducible refine own_at_box 29 ?_; refine ob_2 HO _ rfl ?_; intro nB WB HOn; (try simp only [List.cons_append, List.nil_append] at HOn); clear HO; have HO := HOn; clear HOn)
      | (with_reducible refine own_at_alloc 29 ?_; refine oa_2 HO ?_; intro nB WB HOn; (try simp only [List.cons_append, List.nil_append] at HOn); clear HO; have HO := HOn; clear HOn)
      | (with_reducible refine own_at_load 29 ?_; first | refine ol_2 HO rfl _ _ rfl (by repeat first | apply Has.head | apply Has.tail) rfl ?_ | refine op_2 HO rfl _ _ _ _ rfl (by repeat first | apply Has.head | apply Has.tail) (by repeat first | apply Part.done | apply Part.take | apply Part.skip) ?_)
      | (with_reducible refine own_at_store 29 ?_; refine os_2 HO _ rfl rfl _ _ rfl (by repeat first | apply Sto.head | apply Sto.tail | apply Patch.put | apply Patch.skip | apply Patch.done) rfl ?_; intro WB HOn; clear HO; have HO := HOn; clear HOn)
      | (with_reducible refine own_at_box 4 ?_; refine sb_0 HO (.bool _) rfl rfl ?_; intro nB WB HOn; (try simp only [List.cons_append, List.nil_append] at HOn); clear HO; have HO := HOn; clear HOn)
      | (with_reducible refine own_at_alloc 4 ?_; refine sa_0 HO ?_; intro nB WB HOn; (try simp only [List.cons_append, List.nil_append] at HOn); clear HO; have HO := HOn; clear HOn)
      | (with_reducible refine own_at_load 4 ?_; refine sl_0 HO rfl _ _ _ _ rfl (by repeat first | apply Has.head | apply Has.tail) rfl ?_)
      | (with_reducible refine own_at_store 4 ?_; refine st_0 HO (.bool _) rfl rfl _ _ rfl (by repeat first | apply Sto.head | apply Sto.tail | apply Patch.put | apply Patch.skip | apply Patch.done) rfl ?_; intro WB HOn; clear HO; have HO := HOn; clear HOn)
      | (with_reducible refine own_at_box 3 ?_; refine sb_1 HO (.int .i64 _) rfl rfl ?_; intro nB WB HOn; (try simp only [List.cons_append, List.nil_append] at HOn); clear HO; have HO := HOn; clear HOn)
      | (with_reducible refine own_at_alloc 3 ?_; refine sa_1 HO ?_; intro nB WB HOn; (try simp only [List.cons_append, List.nil_append] at HOn); clear HO; have HO := HOn; clear HOn)
      | (with_reducible refine own_at_load 3 ?_; refine sl_1 HO rfl _ _ _ _ rfl (by repeat first | apply Has.head | apply Has.tail) rfl ?_)
      | (with_reducible refine own_at_store 3 ?_; refine st_1 HO (.int .i64 _) rfl rfl _ _ rfl (by repeat first | apply Sto.head | apply Sto.tail | apply Patch.put | apply Patch.skip | apply Patch.done) rfl ?_; intro WB HOn; clear HO; have HO := HOn; clear HOn)
      | (with_reducible refine own_at_box 30 ?_; refine sb_2 HO (.slice _ _ _) rfl rfl ?_; intro nB WB HOn; (try simp only [List.cons_append, List.nil_append] at HOn); clear HO; have HO := HOn; clear HOn)
      | (with_reducible refine own_at_alloc 30 ?_; refine sa_2 HO ?_; intro nB WB HOn; (try simp only [List.cons_append, List.nil_append] at HOn); clear HO; have HO := HOn; clear HOn)
      | (with_reducible refine own_at_load 30 ?_; refine sl_2 HO rfl _ _ _ _ rfl (by repeat first | apply Has.head | apply Has.tail) rfl ?_)
      | (with_reducible refine own_at_store 30 ?_; refine st_2 HO (.slice _ _ _) rfl rfl _ _ rfl (by repeat first | apply Sto.head | apply Sto.tail | apply Patch.put | apply Patch.skip | apply Patch.done) rfl ?_; intro WB HOn; clear HO; have HO := HOn; clear HOn)
      | (go_at_call 15; refine (begin_f _ _ _ _ _ _ _ _ _ _ _ _ _ _ _ _ _ _ _ _ _ _ _ _ _ _ _ _ _ _ _).mono ?_; rintro e wc ⟨rfl, hb⟩; have HOn := HO.below hb; clear HO hb; have HO := HOn; clear HOn)
      | (go_at_call 21; refine (move_f _ _).mono ?_; rintro e wc ⟨rfl, hb⟩; have HOn := HO.below hb; clear HO hb; have HO := HOn; clear HOn)
      | (go_at_call 22; refine (press2_f _ _).mono ?_; rintro e wc ⟨rfl, hb⟩; have HOn := HO.below hb; clear HO hb; have HO := HOn; clear HOn)
      | (go_at_call 17; refine (freeze_f _ _ _ _ _ _ _ _ _ _ _ _ _ _ _ _ _ _ _ _ _ _).mono ?_; rintro e wc ⟨rfl, hb⟩; have HOn := HO.below hb; clear HO hb; have HO := HOn; clear HOn)
      | (with_reducible refine own_at_lit 30 ?_; refine wpList_own_lits rfl 30 3 _ rfl HO 29 [i6 5, i6 0, i6 0, i6 0, uw 0, i6 1, i6 3, i6 1, i6 0, i6 0, uw 0, i6 2, i6 3, i6 1, i6 0, i6 0, uw 0, i6 3] [(0, .agg #[i6 5, i6 0, i6 0, i6 0, uw 0, i6 1]), (1, .agg #[i6 3, i6 1, i6 0, i6 0, uw 0, i6 2]), (2, .agg #[i6 3, i6 1, i6 0, i6 0, uw 0, i6 3])] rfl lit_in3 ?_; intro nB WB HOn; (try simp only [List.cons_append, List.nil_append] at HOn); clear HO; have HO := HOn; clear HOn))
  refine wp_loop_rounds 4 ?_
  rw [rounds_succ]
  go_wp2_with (first
      | (with_reducible refine own_at_box 32 ?_; refine ob_0 HO _ rfl ?_; intro nB WB HOn; (try simp only [List.cons_append, List.nil_append] at HOn); clear HO; have HO := HOn; clear HOn)
      | (with_reducible refine own_at_alloc 32 ?_; refine oa_0 HO ?_; intro nB WB HOn; (try simp only [List.cons_append, List.nil_append] at HOn); clear HO; have HO := HOn; clear HOn)
      | (with_reducible refine own_at_load 32 ?_; first | refine ol_0 HO rfl _ _ rfl (by repeat first | apply Has.head | apply Has.tail) rfl ?_ | refine op_0 HO rfl _ _ _ _ rfl (by repeat first | apply Has.head | apply Has.tail) (by repeat first | apply Part.done | apply Part.take | apply Part.skip) ?_)
      | (with_reducible refine own_at_store 32 ?_; refine os_0 HO _ rfl rfl _ _ rfl (by repeat first | apply Sto.head | apply Sto.tail | apply Patch.put | apply Patch.skip | apply Patch.done) rfl ?_; intro WB HOn; clear HO; have HO := HOn; clear HOn)
      | (with_reducible refine own_at_box 27 ?_; refine ob_1 HO _ rfl ?_; intro nB WB HOn; (try simp only [List.cons_append, List.nil_append] at HOn); clear HO; have HO := HOn; clear HOn)
      | (with_reducible refine own_at_alloc 27 ?_; refine oa_1 HO ?_; intro nB WB HOn; (try simp only [List.cons_append, List.nil_append] at HOn); clear HO; have HO := HOn; clear HOn)
      | (with_reducible refine own_at_load 27 ?_; first | refine ol_1 HO rfl _ _ rfl (by repeat first | apply Has.head | apply Has.tail) rfl ?_ | refine op_1 HO rfl _ _ _ _ rfl (by repeat first | apply Has.head | apply Has.tail) (by repeat first | apply Part.done | apply Part.take | apply Part.skip) ?_)
      | (with_reducible refine own_at_store 27 ?_; refine os_1 HO _ rfl rfl _ _ rfl (by repeat first | apply Sto.head | apply Sto.tail | apply Patch.put | apply Patch.skip | apply Patch.done) rfl ?_; intro WB HOn; clear HO; have HO := HOn; clear HOn)
      | (with_reducible refine own_at_box 29 ?_; refine ob_2 HO _ rfl ?_; intro nB WB HOn; (try simp only [List.cons_append, List.nil_append] at HOn); clear HO; have HO := HOn; clear HOn)
      | (with_reducible refine own_at_alloc 29 ?_; refine oa_2 HO ?_; intro nB WB HOn; (try simp only [List.cons_append, List.nil_append] at HOn); clear HO; have HO := HOn; clear HOn)
      | (with_reducible refine own_at_load 29 ?_; first | refine ol_2 HO rfl _ _ rfl (by repeat first | apply Has.head | apply Has.tail) rfl ?_ | refine op_2 HO rfl _ _ _ _ rfl (by repeat first | apply Has.head | apply Has.tail) (by repeat first | apply Part.done | apply Part.take | apply Part.skip) ?_)
      | (with_reducible refine own_at_store 29 ?_; refine os_2 HO _ rfl rfl _ _ rfl (by repeat first | apply Sto.head | apply Sto.tail | apply Patch.put | apply Patch.skip | apply Patch.done) rfl ?_; intro WB HOn; clear HO; have HO := HOn; clear HOn)
      | (with_reducible refine own_at_box 4 ?_; refine sb_0 HO (.bool _) rfl rfl ?_; intro nB WB HOn; (try simp only [List.cons_append, List.nil_append] at HOn); clear HO; have HO := HOn; clear HOn)
      | (with_reducible refine own_at_alloc 4 ?_; refine sa_0 HO ?_; intro nB WB HOn; (try simp only [List.cons_append, List.nil_append] at HOn); clear HO; have HO := HOn; clear HOn)
      | (with_reducible refine own_at_load 4 ?_; refine sl_0 HO rfl _ _ _ _ rfl (by repeat first | apply Has.head | apply Has.tail) rfl ?_)
      | (with_reducible refine own_at_store 4 ?_; refine st_0 HO (.bool _) rfl rfl _ _ rfl (by repeat first | apply Sto.head | apply Sto.tail | apply Patch.put | apply Patch.skip | apply Patch.done) rfl ?_; intro WB HOn; clear HO; have HO := HOn; clear HOn)
      | (with_reducible refine own_at_box 3 ?_; refine sb_1 HO (.int .i64 _) rfl rfl ?_; intro nB WB HOn; (try simp only [List.cons_append, List.nil_append] at HOn); clear HO; have HO := HOn; clear HOn)
      | (with_reducible refine own_at_alloc 3 ?_; refine sa_1 HO ?_; intro nB WB HOn; (try simp only [List.cons_append, List.nil_append] at HOn); clear HO; have HO := HOn; clear HOn)
      | (with_reducible refine own_at_load 3 ?_; refine sl_1 HO rfl _ _ _ _ rfl (by repeat first | apply Has.head | apply Has.tail) rfl ?_)
      | (with_reducible refine own_at_store 3 ?_; refine st_1 HO (.int .i64 _) rfl rfl _ _ rfl (by repeat first | apply Sto.head | apply Sto.tail | apply Patch.put | apply Patch.skip | apply Patch.done) rfl ?_; intro WB HOn; clear HO; have HO := HOn; clear HOn)
      | (with_reducible refine own_at_box 30 ?_; refine sb_2 HO (.slice _ _ _) rfl rfl ?_; intro nB WB HOn; (try simp only [List.cons_append, List.nil_append] at HOn); clear HO; have HO := HOn; clear HOn)
      | (with_reducible refine own_at_alloc 30 ?_; refine sa_2 HO ?_; intro nB WB HOn; (try simp only [List.cons_append, List.nil_append] at HOn); clear HO; have HO := HOn; clear HOn)
      | (with_reducible refine own_at_load 30 ?_; refine sl_2 HO rfl _ _ _ _ rfl (by repeat first | apply Has.head | apply Has.tail) rfl ?_)
      | (with_reducible refine own_at_store 30 ?_; refine st_2 HO (.slice _ _ _) rfl rfl _ _ rfl (by repeat first | apply Sto.head | apply Sto.tail | apply Patch.put | apply Patch.skip | apply Patch.done) rfl ?_; intro WB HOn; clear HO; have HO := HOn; clear HOn))
  refine (feed_ok _ _ _ _ _ _ _ _ _ _ _ _ _ _ _ _ _ _ none 0 [] 0 0 _ _ _ _ _ _ _ (by simp) (by decide) (by simp) (fun h => absurd rfl h) (by simp)).mono ?_
  rintro e wc ⟨g1, cg1, rfl, hcg1, hmcg1, hrg1, hb⟩
  have HOn := (HO.takeL 2).noR.pushNew hb g1 0 _ (fun _ => hrg1)
  clear HO hb
  simp only [List.take_succ_cons, List.take_zero] at HOn
  have HO := HOn
  clear HOn
  go_wp2_with (first
      | (with_reducible refine own_at_box 32 ?_; refine ob_0 HO _ rfl ?_; intro nB WB HOn; (try simp only [List.cons_append, List.nil_append] at HOn); clear HO; have HO := HOn; clear HOn)
      | (with_reducible refine own_at_alloc 32 ?_; refine oa_0 HO ?_; intro nB WB HOn; (try simp only [List.cons_append, List.nil_append] at HOn); clear HO; have HO := HOn; clear HOn)
      | (with_reducible refine own_at_load 32 ?_; first | refine ol_0 HO rfl _ _ rfl (by repeat first | apply Has.head | apply Has.tail) rfl ?_ | refine op_0 HO rfl _ _ _ _ rfl (by repeat first | apply Has.head | apply Has.tail) (by repeat first | apply Part.done | apply Part.take | apply Part.skip) ?_)
      | (with_reducible refine own_at_store 32 ?_; refine os_0 HO _ rfl rfl _ _ rfl (by repeat first | apply Sto.head | apply Sto.tail | apply Patch.put | apply Patch.skip | apply Patch.done) rfl ?_; intro WB HOn; clear HO; have HO := HOn; clear HOn)
      | (with_reducible refine own_at_box 27 ?_; refine ob_1 HO _ rfl ?_; intro nB WB HOn; (try simp only [List.cons_append, List.nil_append] at HOn); clear HO; have HO := HOn; clear HOn)
      | (with_reducible refine own_at_alloc 27 ?_; refine oa_1 HO ?_; intro nB WB HOn; (try simp only [List.cons_append, List.nil_append] at HOn); clear HO; have HO := HOn; clear HOn)
      | (with_reducible refine own_at_load 27 ?_; first | refine ol_1 HO rfl _ _ rfl (by repeat first | apply Has.head | apply Has.tail) rfl ?_ | refine op_1 HO rfl _ _ _ _ rfl (by repeat first | apply Has.head | apply Has.tail) (by repeat first | apply Part.done | apply Part.take | apply Part.skip) ?_)
      | (with_reducible refine own_at_store 27 ?_; refine os_1 HO _ rfl rfl _ _ rfl (by repeat first | apply Sto.head | apply Sto.tail | apply Patch.put | apply Patch.skip | apply Patch.done) rfl ?_; intro WB HOn; clear HO; have HO := HOn; clear HOn)
      | (with_reducible refine own_at_box 29 ?_; refine ob_2 HO _ rfl ?_; intro nB WB HOn; (try simp only [List.cons_append, List.nil_append] at HOn); clear HO; have HO := HOn; clear HOn)
      | (with_reducible refine own_at_alloc 29 ?_; refine oa_2 HO ?_; intro nB WB HOn; (try simp only [List.cons_append, List.nil_append] at HOn); clear HO; have HO := HOn; clear HOn)
      | (with_reducible refine own_at_load 29 ?_; first | refine ol_2 HO rfl _ _ rfl (by repeat first | apply Has.head | apply Has.tail) rfl ?_ | refine op_2 HO rfl _ _ _ _ rfl (by repeat first | apply Has.head | apply Has.tail) (by repeat first | apply Part.done | apply Part.take | apply Part.skip) ?_)
      | (with_reducible refine own_at_store 29 ?_; refine os_2 HO _ rfl rfl _ _ rfl (by repeat first | apply Sto.head | apply Sto.tail | apply Patch.put | apply Patch.skip | apply Patch.done) rfl ?_; intro WB HOn; clear HO; have HO := HOn; clear HOn)
      | (with_reducible refine own_at_box 4 ?_; refine sb_0 HO (.bool _) rfl rfl ?_; intro nB WB HOn; (try simp only [List.cons_append, List.nil_append] at HOn); clear HO; have HO := HOn; clear HOn)
      | (with_reducible refine own_at_alloc 4 ?_; refine sa_0 HO ?_; intro nB WB HOn; (try simp only [List.cons_append, List.nil_append] at HOn); clear HO; have HO := HOn; clear HOn)
      | (with_reducible refine own_at_load 4 ?_; refine sl_0 HO rfl _ _ _ _ rfl (by repeat first | apply Has.head | apply Has.tail) rfl ?_)
      | (with_reducible refine own_at_store 4 ?_; refine st_0 HO (.bool _) rfl rfl _ _ rfl (by repeat first | apply Sto.head | apply Sto.tail | apply Patch.put | apply Patch.skip | apply Patch.done) rfl ?_; intro WB HOn; clear HO; have HO := HOn; clear HOn)
      | (with_reducible refine own_at_box 3 ?_; refine sb_1 HO (.int .i64 _) rfl rfl ?_; intro nB WB HOn; (try simp only [List.cons_append, List.nil_append] at HOn); clear HO; have HO := HOn; clear HOn)
      | (with_reducible refine own_at_alloc 3 ?_; refine sa_1 HO ?_; intro nB WB HOn; (try simp only [List.cons_append, List.nil_append] at HOn); clear HO; have HO := HOn; clear HOn)
      | (with_reducible refine own_at_load 3 ?_; refine sl_1 HO rfl _ _ _ _ rfl (by repeat first | apply Has.head | apply Has.tail) rfl ?_)
      | (with_reducible refine own_at_store 3 ?_; refine st_1 HO (.int .i64 _) rfl rfl _ _ rfl (by repeat first | apply Sto.head | apply Sto.tail | apply Patch.put | apply Patch.skip | apply Patch.done) rfl ?_; intro WB HOn; clear HO; have HO := HOn; clear HOn)
      | (with_reducible refine own_at_box 30 ?_; refine sb_2 HO (.slice _ _ _) rfl rfl ?_; intro nB WB HOn; (try simp only [List.cons_append, List.nil_append] at HOn); clear HO; have HO := HOn; clear HOn)
      | (with_reducible refine own_at_alloc 30 ?_; refine sa_2 HO ?_; intro nB WB HOn; (try simp only [List.cons_append, List.nil_append] at HOn); clear HO; have HO := HOn; clear HOn)
      | (with_reducible refine own_at_load 30 ?_; refine sl_2 HO rfl _ _ _ _ rfl (by repeat first | apply Has.head | apply Has.tail) rfl ?_)
      | (with_reducible refine own_at_store 30 ?_; refine st_2 HO (.slice _ _ _) rfl rfl _ _ rfl (by repeat first | apply Sto.head | apply Sto.tail | apply Patch.put | apply Patch.skip | apply Patch.done) rfl ?_; intro WB HOn; clear HO; have HO := HOn; clear HOn))
  rw [rounds_succ]
  go_wp2_with (first
      | (with_reducible refine own_at_box 32 ?_; refine ob_0 HO _ rfl ?_; intro nB WB HOn; (try simp only [List.cons_append, List.nil_append] at HOn); clear HO; have HO := HOn; clear HOn)
      | (with_reducible refine own_at_alloc 32 ?_; refine oa_0 HO ?_; intro nB WB HOn; (try simp only [List.cons_append, List.nil_append] at HOn); clear HO; have HO := HOn; clear HOn)
      | (with_reducible refine own_at_load 32 ?_; first | refine ol_0 HO rfl _ _ rfl (by repeat first | apply Has.head | apply Has.tail) rfl ?_ | refine op_0 HO rfl _ _ _ _ rfl (by repeat first | apply Has.head | apply Has.tail) (by repeat first | apply Part.done | apply Part.take | apply Part.skip) ?_)
      | (with_reducible refine own_at_store 32 ?_; refine os_0 HO _ rfl rfl _ _ rfl (by repeat first | apply Sto.head | apply Sto.tail | apply Patch.put | apply Patch.skip | apply Patch.done) rfl ?_; intro WB HOn; clear HO; have HO := HOn; clear HOn)
      | (with_reducible refine own_at_box 27 ?_; refine ob_1 HO _ rfl ?_; intro nB WB HOn; (try simp only [List.cons_append, List.nil_append] at HOn); clear HO; have HO := HOn; clear HOn)
      | (with_reducible refine own_at_alloc 27 ?_; refine oa_1 HO ?_; intro nB WB HOn; (try simp only [List.cons_append, List.nil_append] at HOn); clear HO; have HO := HOn; clear HOn)
      | (with_reducible refine own_at_load 27 ?_; first | refine ol_1 HO rfl _ _ rfl (by repeat first | apply Has.head | apply Has.tail) rfl ?_ | refine op_1 HO rfl _ _ _ _ rfl (by repeat first | apply Has.head | apply Has.tail) (by repeat first | apply Part.done | apply Part.take | apply Part.skip) ?_)
      | (with_reducible refine own_at_store 27 ?_; refine os_1 HO _ rfl rfl _ _ rfl (by repeat first | apply Sto.head | apply Sto.tail | apply Patch.put | apply Patch.skip | apply Patch.done) rfl ?_; intro WB HOn; clear HO; have HO := HOn; clear HOn)
      | (with_reducible refine own_at_box 29 ?_; refine ob_2 HO _ rfl ?_; intro nB WB HOn; (try simp only [List.cons_append, List.nil_append] at HOn); clear HO; have HO := HOn; clear HOn)
      | (with_reducible refine own_at_alloc 29 ?_; refine oa_2 HO ?_; intro nB WB HOn; (try simp only [List.cons_append, List.nil_append] at HOn); clear HO; have HO := HOn; clear HOn)
      | (with_reducible refine own_at_load 29 ?_; first | refine ol_2 HO rfl _ _ rfl (by repeat first | apply Has.head | apply Has.tail) rfl ?_ | refine op_2 HO rfl _ _ _ _ rfl (by repeat first | apply Has.head | apply Has.tail) (by repeat first | apply Part.done | apply Part.take | apply Part.skip) ?_)
      | (with_reducible refine own_at_store 29 ?_; refine os_2 HO _ rfl rfl _ _ rfl (by repeat first | apply Sto.head | apply Sto.tail | apply Patch.put | apply Patch.skip | apply Patch.done) rfl ?_; intro WB HOn; clear HO; have HO := HOn; clear HOn)
      | (with_reducible refine own_at_box 4 ?_; refine sb_0 HO (.bool _) rfl rfl ?_; intro nB WB HOn; (try simp only [List.cons_append, List.nil_append] at HOn); clear HO; have HO := HOn; clear HOn)
      | (with_reducible refine own_at_alloc 4 ?_; refine sa_0 HO ?_; intro nB WB HOn; (try simp only [List.cons_append, List.nil_append] at HOn); clear HO; have HO := HOn; clear HOn)
      | (with_reducible refine own_at_load 4 ?_; refine sl_0 HO rfl _ _ _ _ rfl (by repeat first | apply Has.head | apply Has.tail) rfl ?_)
      | (with_reducible refine own_at_store 4 ?_; refine st_0 HO (.bool _) rfl rfl _ _ rfl (by repeat first | apply Sto.head | apply Sto.tail | apply Patch.put | apply Patch.skip | apply Patch.done) rfl ?_; intro WB HOn; clear HO; have HO := HOn; clear HOn)
      | (with_reducible refine own_at_box 3 ?_; refine sb_1 HO (.int .i64 _) rfl rfl ?_; intro nB WB HOn; (try simp only [List.cons_append, List.nil_append] at HOn); clear HO; have HO := HOn; clear HOn)
      | (with_reducible refine own_at_alloc 3 ?_; refine sa_1 HO ?_; intro nB WB HOn; (try simp only [List.cons_append, List.nil_append] at HOn); clear HO; have HO := HOn; clear HOn)
      | (with_reducible refine own_at_load 3 ?_; refine sl_1 HO rfl _ _ _ _ rfl (by repeat first | apply Has.head | apply Has.tail) rfl ?_)
      | (with_reducible refine own_at_store 3 ?_; refine st_1 HO (.int .i64 _) rfl rfl _ _ rfl (by repeat first | apply Sto.head | apply Sto.tail | apply Patch.put | apply Patch.skip | apply Patch.done) rfl ?_; intro WB HOn; clear HO; have HO := HOn; clear HOn)
      | (with_reducible refine own_at_box 30 ?_; refine sb_2 HO (.slice _ _ _) rfl rfl ?_; intro nB WB HOn; (try simp only [List.cons_append, List.nil_append] at HOn); clear HO; have HO := HOn; clear HOn)
      | (with_reducible refine own_at_alloc 30 ?_; refine sa_2 HO ?_; intro nB WB HOn; (try simp only [List.cons_append, List.nil_append] at HOn); clear HO; have HO := HOn; clear HOn)
      | (with_reducible refine own_at_load 30 ?_; refine sl_2 HO rfl _ _ _ _ rfl (by repeat first | apply Has.head | apply Has.tail) rfl ?_)
      | (with_reducible refine own_at_store 30 ?_; refine st_2 HO (.slice _ _ _) rfl rfl _ _ rfl (by repeat first | apply Sto.head | apply Sto.tail | apply Patch.put | apply Patch.skip | apply Patch.done) rfl ?_; intro WB HOn; clear HO; have HO := HOn; clear HOn))
  refine (feed_ok _ _ _ _ _ _ _ _ _ _ _ _ _ _ _ _ _ _ (some ⟨g1, 0, none⟩) cg1 [⟨5, 0, 0, 0, 0, 1⟩] g1 0 _ _ _ _ _ _ _ hcg1 hmcg1 (fun _ => rfl) (fun hne => ⟨(HO.rng 0 _ _ _ rfl hne).1, (HO.rng 0 _ _ _ rfl hne).2.1⟩) (by simp)).mono ?_
  rintro e wc ⟨g2, cg2, rfl, hcg2, hmcg2, hrg2, hb⟩
  have HOn := (HO.takeL 2).noR.pushNew hb g2 0 _ (fun _ => hrg2)
  clear HO hb
  simp only [List.take_succ_cons, List.take_zero] at HOn
  have HO := HOn
  clear HOn
  go_wp2_with (first
      | (with_reducible refine own_at_box 32 ?_; refine ob_0 HO _ rfl ?_; intro nB WB HOn; (try simp only [List.cons_append, List.nil_append] at HOn); clear HO; have HO := HOn; clear HOn)
      | (with_reducible refine own_at_alloc 32 ?_; refine oa_0 HO ?_; intro nB WB HOn; (try simp only [List.cons_append, List.nil_append] at HOn); clear HO; have HO := HOn; clear HOn)
      | (with_reducible refine own_at_load 32 ?_; first | refine ol_0 HO rfl _ _ rfl (by repeat first | apply Has.head | apply Has.tail) rfl ?_ | refine op_0 HO rfl _ _ _ _ rfl (by repeat first | apply Has.head | apply Has.tail) (by repeat first | apply Part.done | apply Part.take | apply Part.skip) ?_)
      | (with_reducible refine own_at_store 32 ?_; refine os_0 HO _ rfl rfl _ _ rfl (by repeat first | apply Sto.head | apply Sto.tail | apply Patch.put | apply Patch.skip | apply Patch.done) rfl ?_; intro WB HOn; clear HO; have HO := HOn; clear HOn)
      | (with_reducible refine own_at_box 27 ?_; refine ob_1 HO _ rfl ?_; intro nB WB HOn; (try simp only [List.cons_append, List.nil_append] at HOn); clear HO; have HO := HOn; clear HOn)
      | (with_reducible refine own_at_alloc 27 ?_; refine oa_1 HO ?_; intro nB WB HOn; (try simp only [List.cons_append, List.nil_append] at HOn); clear HO; have HO := HOn; clear HOn)
      | (with_reducible refine own_at_load 27 ?_; first | refine ol_1 HO rfl _ _ rfl (by repeat first | apply Has.head | apply Has.tail) rfl ?_ | refine op_1 HO rfl _ _ _ _ rfl (by repeat first | apply Has.head | apply Has.tail) (by repeat first | apply Part.done | apply Part.take | apply Part.skip) ?_)
      | (with_reducible refine own_at_store 27 ?_; refine os_1 HO _ rfl rfl _ _ rfl (by repeat first | apply Sto.head | apply Sto.tail | apply Patch.put | apply Patch.skip | apply Patch.done) rfl ?_; intro WB HOn; clear HO; have HO := HOn; clear HOn)
      | (with_reducible refine own_at_box 29 ?_; refine ob_2 HO _ rfl ?_; intro nB WB HOn; (try simp only [List.cons_append, List.nil_append] at HOn); clear HO; have HO := HOn; clear HOn)
      | (with_reducible refine own_at_alloc 29 ?_; refine oa_2 HO ?_; intro nB WB HOn; (try simp only [List.cons_append, List.nil_append] at HOn); clear HO; have HO := HOn; clear HOn)
      | (with_reducible refine own_at_load 29 ?_; first | refine ol_2 HO rfl _ _ rfl (by repeat first | apply Has.head | apply Has.tail) rfl ?_ | refine op_2 HO rfl _ _ _ _ rfl (by repeat first | apply Has.head | apply Has.tail) (by repeat first | apply Part.done | apply Part.take | apply Part.skip) ?_)
      | (with_reducible refine own_at_store 29 ?_; refine os_2 HO _ rfl rfl _ _ rfl (by repeat first | apply Sto.head | apply Sto.tail | apply Patch.put | apply Patch.skip | apply Patch.done) rfl ?_; intro WB HOn; clear HO; have HO := HOn; clear HOn)
      | (with_reducible refine own_at_box 4 ?_; refine sb_0 HO (.bool _) rfl rfl ?_; intro nB WB HOn; (try simp only [List.cons_append, List.nil_append] at HOn); clear HO; have HO := HOn; clear HOn)
      | (with_reducible refine own_at_alloc 4 ?_; refine sa_0 HO ?_; intro nB WB HOn; (try simp only [List.cons_append, List.nil_append] at HOn); clear HO; have HO := HOn; clear HOn)
      | (with_reducible refine own_at_load 4 ?_; refine sl_0 HO rfl _ _ _ _ rfl (by repeat first | apply Has.head | apply Has.tail) rfl ?_)
      | (with_reducible refine own_at_store 4 ?_; refine st_0 HO (.bool _) rfl rfl _ _ rfl (by repeat first | apply Sto.head | apply Sto.tail | apply Patch.put | apply Patch.skip | apply Patch.done) rfl ?_; intro WB HOn; clear HO; have HO := HOn; clear HOn)
      | (with_reducible refine own_at_box 3 ?_; refine sb_1 HO (.int .i64 _) rfl rfl ?_; intro nB WB HOn; (try simp only [List.cons_append, List.nil_append] at HOn); clear HO; have HO := HOn; clear HOn)
      | (with_reducible refine own_at_alloc 3 ?_; refine sa_1 HO ?_; intro nB WB HOn; (try simp only [List.cons_append, List.nil_append] at HOn); clear HO; have HO := HOn; clear HOn)
      | (with_reducible refine own_at_load 3 ?_; refine sl_1 HO rfl _ _ _ _ rfl (by repeat first | apply Has.head | apply Has.tail) rfl ?_)
      | (with_reducible refine own_at_store 3 ?_; refine st_1 HO (.int .i64 _) rfl rfl _ _ rfl (by repeat first | apply Sto.head | apply Sto.tail | apply Patch.put | apply Patch.skip | apply Patch.done) rfl ?_; intro WB HOn; clear HO; have HO := HOn; clear HOn)
      | (with_reducible refine own_at_box 30 ?_; refine sb_2 HO (.slice _ _ _) rfl rfl ?_; intro nB WB HOn; (try simp only [List.cons_append, List.nil_append] at HOn); clear HO; have HO := HOn; clear HOn)
      | (with_reducible refine own_at_alloc 30 ?_; refine sa_2 HO ?_; intro nB WB HOn; (try simp only [List.cons_append, List.nil_append] at HOn); clear HO; have HO := HOn; clear HOn)
      | (with_reducible refine own_at_load 30 ?_; refine sl_2 HO rfl _ _ _ _ rfl (by repeat first | apply Has.head | apply Has.tail) rfl ?_)
      | (with_reducible refine own_at_store 30 ?_; refine st_2 HO (.slice _ _ _) rfl rfl _ _ rfl (by repeat first | apply Sto.head | apply Sto.tail | apply Patch.put | apply Patch.skip | apply Patch.done) rfl ?_; intro WB HOn; clear HO; have HO := HOn; clear HOn))
  rw [rounds_succ]
  go_wp2_with (first
      | (with_reducible refine own_at_box 32 ?_; refine ob_0 HO _ rfl ?_; intro nB WB HOn; (try simp only [List.cons_append, List.nil_append] at HOn); clear HO; have HO := HOn; clear HOn)
      | (with_reducible refine own_at_alloc 32 ?_; refine oa_0 HO ?_; intro nB WB HOn; (try simp only [List.cons_append, List.nil_append] at HOn); clear HO; have HO := HOn; clear HOn)
      | (with_reducible refine own_at_load 32 ?_; first | refine ol_0 HO rfl _ _ rfl (by repeat first | apply Has.head | apply Has.tail) rfl ?_ | refine op_0 HO rfl _ _ _ _ rfl (by repeat first | apply Has.head | apply Has.tail) (by repeat first | apply Part.done | apply Part.take | apply Part.skip) ?_)
      | (with_reducible refine own_at_store 32 ?_; refine os_0 HO _ rfl rfl _ _ rfl (by repeat first | apply Sto.head | apply Sto.tail | apply Patch.put | apply Patch.skip | apply Patch.done) rfl ?_; intro WB HOn; clear HO; have HO := HOn; clear HOn)
      | (with_reducible refine own_at_box 27 ?_; refine ob_1 HO _ rfl ?_; intro nB WB HOn; (try simp only [List.cons_append, List.nil_append] at HOn); clear HO; have HO := HOn; clear HOn)
      | (with_reducible refine own_at_alloc 27 ?_; refine oa_1 HO ?_; intro nB WB HOn; (try simp only [List.cons_append, List.nil_append] at HOn); clear HO; have HO := HOn; clear HOn)
      | (with_reducible refine own_at_load 27 ?_; first | refine ol_1 HO rfl _ _ rfl (by repeat first | apply Has.head | apply Has.tail) rfl ?_ | refine op_1 HO rfl _ _ _ _ rfl (by repeat first | apply Has.head | apply Has.tail) (by repeat first | apply Part.done | apply Part.take | apply Part.skip) ?_)
      | (with_reducible refine own_at_store 27 ?_; refine os_1 HO _ rfl rfl _ _ rfl (by repeat first | apply Sto.head | apply Sto.tail | apply Patch.put | apply Patch.skip | apply Patch.done) rfl ?_; intro WB HOn; clear HO; have HO := HOn; clear HOn)
      | (with_reducible refine own_at_box 29 ?_; refine ob_2 HO _ rfl ?_; intro nB WB HOn; (try simp only [List.cons_append, List.nil_append] at HOn); clear HO; have HO := HOn; clear HOn)
      | (with_reducible refine own_at_alloc 29 ?_; refine oa_2 HO ?_; intro nB WB HOn; (try simp only [List.cons_append, List.nil_append] at HOn); clear HO; have HO := HOn; clear HOn)
      | (with_reducible refine own_at_load 29 ?_; first | refine ol_2 HO rfl _ _ rfl (by repeat first | apply Has.head | apply Has.tail) rfl ?_ | refine op_2 HO rfl _ _ _ _ rfl (by repeat first | apply Has.head | apply Has.tail) (by repeat first | apply Part.done | apply Part.take | apply Part.skip) ?_)
      | (with_reducible refine own_at_store 29 ?_; refine os_2 HO _ rfl rfl _ _ rfl (by repeat first | apply Sto.head | apply Sto.tail | apply Patch.put | apply Patch.skip | apply Patch.done) rfl ?_; intro WB HOn; clear HO; have HO := HOn; clear HOn)
      | (with_reducible refine own_at_box 4 ?_; refine sb_0 HO (.bool _) rfl rfl ?_; intro nB WB HOn; (try simp only [List.cons_append, List.nil_append] at HOn); clear HO; have HO := HOn; clear HOn)
      | (with_reducible refine own_at_alloc 4 ?_; refine sa_0 HO ?_; intro nB WB HOn; (try simp only [List.cons_append, List.nil_append] at HOn); clear HO; have HO := HOn; clear HOn)
      | (with_reducible refine own_at_load 4 ?_; refine sl_0 HO rfl _ _ _ _ rfl (by repeat first | apply Has.head | apply Has.tail) rfl ?_)
      | (with_reducible refine own_at_store 4 ?_; refine st_0 HO (.bool _) rfl rfl _ _ rfl (by repeat first | apply Sto.head | apply Sto.tail | apply Patch.put | apply Patch.skip | apply Patch.done) rfl ?_; intro WB HOn; clear HO; have HO := HOn; clear HOn)
      | (with_reducible refine own_at_box 3 ?_; refine sb_1 HO (.int .i64 _) rfl rfl ?_; intro nB WB HOn; (try simp only [List.cons_append, List.nil_append] at HOn); clear HO; have HO := HOn; clear HOn)
      | (with_reducible refine own_at_alloc 3 ?_; refine sa_1 HO ?_; intro nB WB HOn; (try simp only [List.cons_append, List.nil_append] at HOn); clear HO; have HO := HOn; clear HOn)
      | (with_reducible refine own_at_load 3 ?_; refine sl_1 HO rfl _ _ _ _ rfl (by repeat first | apply Has.head | apply Has.tail) rfl ?_)
      | (with_reducible refine own_at_store 3 ?_; refine st_1 HO (.int .i64 _) rfl rfl _ _ rfl (by repeat first | apply Sto.head | apply Sto.tail | apply Patch.put | apply Patch.skip | apply Patch.done) rfl ?_; intro WB HOn; clear HO; have HO := HOn; clear HOn)
      | (with_reducible refine own_at_box 30 ?_; refine sb_2 HO (.slice _ _ _) rfl rfl ?_; intro nB WB HOn; (try simp only [List.cons_append, List.nil_append] at HOn); clear HO; have HO := HOn; clear HOn)
      | (with_reducible refine own_at_alloc 30 ?_; refine sa_2 HO ?_; intro nB WB HOn; (try simp only [List.cons_append, List.nil_append] at HOn); clear HO; have HO := HOn; clear HOn)
      | (with_reducible refine own_at_load 30 ?_; refine sl_2 HO rfl _ _ _ _ rfl (by repeat first | apply Has.head | apply Has.tail) rfl ?_)
      | (with_reducible refine own_at_store 30 ?_; refine st_2 HO (.slice _ _ _) rfl rfl _ _ rfl (by repeat first | apply Sto.head | apply Sto.tail | apply Patch.put | apply Patch.skip | apply Patch.done) rfl ?_; intro WB HOn; clear HO; have HO := HOn; clear HOn))
  refine (feed_ok _ _ _ _ _ _ _ _ _ _ _ _ _ _ _ _ _ _ (some ⟨g2, 0, none⟩) cg2 [⟨5, 0, 0, 0, 0, 1⟩, ⟨3, 1, 0, 0, 0, 2⟩] g2 0 _ _ _ _ _ _ _ hcg2 hmcg2 (fun _ => rfl) (fun hne => ⟨(HO.rng 0 _ _ _ rfl hne).1, (HO.rng 0 _ _ _ rfl hne).2.1⟩) (by simp)).mono ?_
  rintro e wc ⟨g3, cg3, rfl, hcg3, hmcg3, hrg3, hb⟩
  have HOn := (HO.takeL 2).noR.pushNew hb g3 0 _ (fun _ => hrg3)
  clear HO hb
  simp only [List.take_succ_cons, List.take_zero] at HOn
  have HO := HOn
  clear HOn
  go_wp2_with (first
      | (with_reducible refine own_at_box 32 ?_; refine ob_0 HO _ rfl ?_; intro nB WB HOn; (try simp only [List.cons_append, List.nil_append] at HOn); clear HO; have HO := HOn; clear HOn)
      | (with_reducible refine own_at_alloc 32 ?_; refine oa_0 HO ?_; intro nB WB HOn; (try simp only [List.cons_append, List.nil_append] at HOn); clear HO; have HO := HOn; clear HOn)
      | (with_reducible refine own_at_load 32 ?_; first | refine ol_0 HO rfl _ _ rfl (by repeat first | apply Has.head | apply Has.tail) rfl ?_ | refine op_0 HO rfl _ _ _ _ rfl (by repeat first | apply Has.head | apply Has.tail) (by repeat first | apply Part.done | apply Part.take | apply Part.skip) ?_)
      | (with_reducible refine own_at_store 32 ?_; refine os_0 HO _ rfl rfl _ _ rfl (by repeat first | apply Sto.head | apply Sto.tail | apply Patch.put | apply Patch.skip | apply Patch.done) rfl ?_; intro WB HOn; clear HO; have HO := HOn; clear HOn)
      | (with_reducible refine own_at_box 27 ?_; refine ob_1 HO _ rfl ?_; intro nB WB HOn; (try simp only [List.cons_append, List.nil_append] at HOn); clear HO; have HO := HOn; clear HOn)
      | (with_reducible refine own_at_alloc 27 ?_; refine oa_1 HO ?_; intro nB WB HOn; (try simp only [List.cons_append, List.nil_append] at HOn); clear HO; have HO := HOn; clear HOn)
      | (with_reducible refine own_at_load 27 ?_; first | refine ol_1 HO rfl _ _ rfl (by repeat first | apply Has.head | apply Has.tail) rfl ?_ | refine op_1 HO rfl _ _ _ _ rfl (by repeat first | apply Has.head | apply Has.tail) (by repeat first | apply Part.done | apply Part.take | apply Part.skip) ?_)
      | (with_reducible refine own_at_store 27 ?_; refine os_1 HO _ rfl rfl _ _ rfl (by repeat first | apply Sto.head | apply Sto.tail | apply Patch.put | apply Patch.skip | apply Patch.done) rfl ?_; intro WB HOn; clear HO; have HO := HOn; clear HOn)
      | (with_reducible refine own_at_box 29 ?_; refine ob_2 HO _ rfl ?_; intro nB WB HOn; (try simp only [List.cons_append, List.nil_append] at HOn); clear HO; have HO := HOn; clear HOn)
      | (with_reducible refine own_at_alloc 29 ?_; refine oa_2 HO ?_; intro nB WB HOn; (try simp only [List.cons_append, List.nil_append] at HOn); clear HO; have HO := HOn; clear HOn)
      | (with_reducible refine own_at_load 29 ?_; first | refine ol_2 HO rfl _ _ rfl (by repeat first | apply Has.head | apply Has.tail) rfl ?_ | refine op_2 HO rfl _ _ _ _ rfl (by repeat first | apply Has.head | apply Has.tail) (by repeat first | apply Part.done | apply Part.take | apply Part.skip) ?_)
      | (with_reducible refine own_at_store 29 ?_; refine os_2 HO _ rfl rfl _ _ rfl (by repeat first | apply Sto.head | apply Sto.tail | apply Patch.put | apply Patch.skip | apply Patch.done) rfl ?_; intro WB HOn; clear HO; have HO := HOn; clear HOn)
      | (with_reducible refine own_at_box 4 ?_; refine sb_0 HO (.bool _) rfl rfl ?_; intro nB WB HOn; (try simp only [List.cons_append, List.nil_append] at HOn); clear HO; have HO := HOn; clear HOn)
      | (with_reducible refine own_at_alloc 4 ?_; refine sa_0 HO ?_; intro nB WB HOn; (try simp only [List.cons_append, List.nil_append] at HOn); clear HO; have HO := HOn; clear HOn)
      | (with_reducible refine own_at_load 4 ?_; refine sl_0 HO rfl _ _ _ _ rfl (by repeat first | apply Has.head | apply Has.tail) rfl ?_)
      | (with_reducible refine own_at_store 4 ?_; refine st_0 HO (.bool _) rfl rfl _ _ rfl (by repeat first | apply Sto.head | apply Sto.tail | apply Patch.put | apply Patch.skip | apply Patch.done) rfl ?_; intro WB HOn; clear HO; have HO := HOn; clear HOn)
      | (with_reducible refine own_at_box 3 ?_; refine sb_1 HO (.int .i64 _) rfl rfl ?_; intro nB WB HOn; (try simp only [List.cons_append, List.nil_append] at HOn); clear HO; have HO := HOn; clear HOn)
      | (with_reducible refine own_at_alloc 3 ?_; refine sa_1 HO ?_; intro nB WB HOn; (try simp only [List.cons_append, List.nil_append] at HOn); clear HO; have HO := HOn; clear HOn)
      | (with_reducible refine own_at_load 3 ?_; refine sl_1 HO rfl _ _ _ _ rfl (by repeat first | apply Has.head | apply Has.tail) rfl ?_)
      | (with_reducible refine own_at_store 3 ?_; refine st_1 HO (.int .i64 _) rfl rfl _ _ rfl (by repeat first | apply Sto.head | apply Sto.tail | apply Patch.put | apply Patch.skip | apply Patch.done) rfl ?_; intro WB HOn; clear HO; have HO := HOn; clear HOn)
      | (with_reducible refine own_at_box 30 ?_; refine sb_2 HO (.slice _ _ _) rfl rfl ?_; intro nB WB HOn; (try simp only [List.cons_append, List.nil_append] at HOn); clear HO; have HO := HOn; clear HOn)
      | (with_reducible refine own_at_alloc 30 ?_; refine sa_2 HO ?_; intro nB WB HOn; (try simp only [List.cons_append, List.nil_append] at HOn); clear HO; have HO := HOn; clear HOn)
      | (with_reducible refine own_at_load 30 ?_; refine sl_2 HO rfl _ _ _ _ rfl (by repeat first | apply Has.head | apply Has.tail) rfl ?_)
      | (with_reducible refine own_at_store 30 ?_; refine st_2 HO (.slice _ _ _) rfl rfl _ _ rfl (by repeat first | apply Sto.head | apply Sto.tail | apply Patch.put | apply Patch.skip | apply Patch.done) rfl ?_; intro WB HOn; clear HO; have HO := HOn; clear HOn))
  rw [rounds_succ]
  go_wp2_with (first
      | (with_reducible refine own_at_box 32 ?_; refine ob_0 HO _ rfl ?_; intro nB WB HOn; (try simp only [List.cons_append, List.nil_append] at HOn); clear HO; have HO := HOn; clear HOn)
      | (with_reducible refine own_at_alloc 32 ?_; refine oa_0 HO ?_; intro nB WB HOn; (try simp only [List.cons_append, List.nil_append] at HOn); clear HO; have HO := HOn; clear HOn)
      | (with_reducible refine own_at_load 32 ?_; first | refine ol_0 HO rfl _ _ rfl (by repeat first | apply Has.head | apply Has.tail) rfl ?_ | refine op_0 HO rfl _ _ _ _ rfl (by repeat first | apply Has.head | apply Has.tail) (by repeat first | apply Part.done | apply Part.take | apply Part.skip) ?_)
      | (with_reducible refine own_at_store 32 ?_; refine os_0 HO _ rfl rfl _ _ rfl (by repeat first | apply Sto.head | apply Sto.tail | apply Patch.put | apply Patch.skip | apply Patch.done) rfl ?_; intro WB HOn; clear HO; have HO := HOn; clear HOn)
      | (with_reducible refine own_at_box 27 ?_; refine ob_1 HO _ rfl ?_; intro nB WB HOn; (try simp only [List.cons_append, List.nil_append] at HOn); clear HO; have HO := HOn; clear HOn)
      | (with_reducible refine own_at_alloc 27 ?_; refine oa_1 HO ?_; intro nB WB HOn; (try simp only [List.cons_append, List.nil_append] at HOn); clear HO; have HO := HOn; clear HOn)
      | (with_reducible refine own_at_load 27 ?_; first | refine ol_1 HO rfl _ _ rfl (by repeat first | apply Has.head | apply Has.tail) rfl ?_ | refine op_1 HO rfl _ _ _ _ rfl (by repeat first | apply Has.head | apply Has.tail) (by repeat first | apply Part.done | apply Part.take | apply Part.skip) ?_)
      | (with_reducible refine own_at_store 27 ?_; refine os_1 HO _ rfl rfl _ _ rfl (by repeat first | apply Sto.head | apply Sto.tail | apply Patch.put | apply Patch.skip | apply Patch.done) rfl ?_; intro WB HOn; clear HO; have HO := HOn; clear HOn)
      | (with_reducible refine own_at_box 29 ?_; refine ob_2 HO _ rfl ?_; intro nB WB HOn; (try simp only [List.cons_append, List.nil_append] at HOn); clear HO; have HO := HOn; clear HOn)
      | (with_reducible refine own_at_alloc 29 ?_; refine oa_2 HO ?_; intro nB WB HOn; (try simp only [List.cons_append, List.nil_append] at HOn); clear HO; have HO := HOn; clear HOn)
      | (with_reducible refine own_at_load 29 ?_; first | refine ol_2 HO rfl _ _ rfl (by repeat first | apply Has.head | apply Has.tail) rfl ?_ | refine op_2 HO rfl _ _ _ _ rfl (by repeat first | apply Has.head | apply Has.tail) (by repeat first | apply Part.done | apply Part.take | apply Part.skip) ?_)
      | (with_reducible refine own_at_store 29 ?_; refine os_2 HO _ rfl rfl _ _ rfl (by repeat first | apply Sto.head | apply Sto.tail | apply Patch.put | apply Patch.skip | apply Patch.done) rfl ?_; intro WB HOn; clear HO; have HO := HOn; clear HOn)
      | (with_reducible refine own_at_box 4 ?_; refine sb_0 HO (.bool _) rfl rfl ?_; intro nB WB HOn; (try simp only [List.cons_append, List.nil_append] at HOn); clear HO; have HO := HOn; clear HOn)
      | (with_reducible refine own_at_alloc 4 ?_; refine sa_0 HO ?_; intro nB WB HOn; (try simp only [List.cons_append, List.nil_append] at HOn); clear HO; have HO := HOn; clear HOn)
      | (with_reducible refine own_at_load 4 ?_; refine sl_0 HO rfl _ _ _ _ rfl (by repeat first | apply Has.head | apply Has.tail) rfl ?_)
      | (with_reducible refine own_at_store 4 ?_; refine st_0 HO (.bool _) rfl rfl _ _ rfl (by repeat first | apply Sto.head | apply Sto.tail | apply Patch.put | apply Patch.skip | apply Patch.done) rfl ?_; intro WB HOn; clear HO; have HO := HOn; clear HOn)
      | (with_reducible refine own_at_box 3 ?_; refine sb_1 HO (.int .i64 _) rfl rfl ?_; intro nB WB HOn; (try simp only [List.cons_append, List.nil_append] at HOn); clear HO; have HO := HOn; clear HOn)
      | (with_reducible refine own_at_alloc 3 ?_; refine sa_1 HO ?_; intro nB WB HOn; (try simp only [List.cons_append, List.nil_append] at HOn); clear HO; have HO := HOn; clear HOn)
      | (with_reducible refine own_at_load 3 ?_; refine sl_1 HO rfl _ _ _ _ rfl (by repeat first | apply Has.head | apply Has.tail) rfl ?_)
      | (with_reducible refine own_at_store 3 ?_; refine st_1 HO (.int .i64 _) rfl rfl _ _ rfl (by repeat first | apply Sto.head | apply Sto.tail | apply Patch.put | apply Patch.skip | apply Patch.done) rfl ?_; intro WB HOn; clear HO; have HO := HOn; clear HOn)
      | (with_reducible refine own_at_box 30 ?_; refine sb_2 HO (.slice _ _ _) rfl rfl ?_; intro nB WB HOn; (try simp only [List.cons_append, List.nil_append] at HOn); clear HO; have HO := HOn; clear HOn)
      | (with_reducible refine own_at_alloc 30 ?_; refine sa_2 HO ?_; intro nB WB HOn; (try simp only [List.cons_append, List.nil_append] at HOn); clear HO; have HO := HOn; clear HOn)
      | (with_reducible refine own_at_load 30 ?_; refine sl_2 HO rfl _ _ _ _ rfl (by repeat first | apply Has.head | apply Has.tail) rfl ?_)
      | (with_reducible refine own_at_store 30 ?_; refine st_2 HO (.slice _ _ _) rfl rfl _ _ rfl (by repeat first | apply Sto.head | apply Sto.tail | apply Patch.put | apply Patch.skip | apply Patch.done) rfl ?_; intro WB HOn; clear HO; have HO := HOn; clear HOn)
      | (go_at_call 11; refine (allow_sync _ _ _ _ _ _ _ _ _ _ _ _ _ _ _ _ _ _ _ _ _).mono ?_; rintro e wc ⟨rfl, hb⟩; have HOn := HO.below hb; clear HO hb; have HO := HOn; clear HOn))
  refine (next_at _ _ _ _ _ _ _ _ _ _ _ _ _ _ _ _ _ 3 cg3 [⟨5, 0, 0, 0, 0, 1⟩, ⟨3, 1, 0, 0, 0, 2⟩, ⟨3, 1, 0, 0, 0, 3⟩] g3 0 _ _ _ _ _ _ _ rfl (by have := hcg3; simp at this; omega) rfl (fun hne => ⟨(HO.rng 0 _ _ _ rfl hne).1, (HO.rng 0 _ _ _ rfl hne).2.1⟩) (by simp) false true (some ⟨g3, 6, none⟩) (by decide) (by decide) (by unfold tailA; rw [if_neg (by have := hcg3; simp at this; omega)])).mono ?_
  rintro e wc ⟨rfl, hb⟩
  have HOn := (HO.below hb).dropR inL_len (by decide) 0 _ _ _ rfl 1 6 [⟨3, 1, 0, 0, 0, 2⟩, ⟨3, 1, 0, 0, 0, 3⟩] rfl rfl
  clear HO hb
  have HO := HOn
  clear HOn
  go_wp2_with (first
      | (with_reducible refine own_at_box 32 ?_; refine ob_0 HO _ rfl ?_; intro nB WB HOn; (try simp only [List.cons_append, List.nil_append] at HOn); clear HO; have HO := HOn; clear HOn)
      | (with_reducible refine own_at_alloc 32 ?_; refine oa_0 HO ?_; intro nB WB HOn; (try simp only [List.cons_append, List.nil_append] at HOn); clear HO; have HO := HOn; clear HOn)
      | (with_reducible refine own_at_load 32 ?_; first | refine ol_0 HO rfl _ _ rfl (by repeat first | apply Has.head | apply Has.tail) rfl ?_ | refine op_0 HO rfl _ _ _ _ rfl (by repeat first | apply Has.head | apply Has.tail) (by repeat first | apply Part.done | apply Part.take | apply Part.skip) ?_)
      | (with_reducible refine own_at_store 32 ?_; refine os_0 HO _ rfl rfl _ _ rfl (by repeat first | apply Sto.head | apply Sto.tail | apply Patch.put | apply Patch.skip | apply Patch.done) rfl ?_; intro WB HOn; clear HO; have HO := HOn; clear HOn)
      | (with_reducible refine own_at_box 27 ?_; refine ob_1 HO _ rfl ?_; intro nB WB HOn; (try simp only [List.cons_append, List.nil_append] at HOn); clear HO; have HO := HOn; clear HOn)
      | (with_reducible refine own_at_alloc 27 ?_; refine oa_1 HO ?_; intro nB WB HOn; (try simp only [List.cons_append, List.nil_append] at HOn); clear HO; have HO := HOn; clear HOn)
      | (with_reducible refine own_at_load 27 ?_; first | refine ol_1 HO rfl _ _ rfl (by repeat first | apply Has.head | apply Has.tail) rfl ?_ | refine op_1 HO rfl _ _ _ _ rfl (by repeat first | apply Has.head | apply Has.tail) (by repeat first | apply Part.done | apply Part.take | apply Part.skip) ?_)
      | (with_reducible refine own_at_store 27 ?_; refine os_1 HO _ rfl rfl _ _ rfl (by repeat first | apply Sto.head | apply Sto.tail | apply Patch.put | apply Patch.skip | apply Patch.done) rfl ?_; intro WB HOn; clear HO; have HO := HOn; clear HOn)
      | (with_reducible refine own_at_box 29 ?_; refine ob_2 HO _ rfl ?_; intro nB WB HOn; (try simp only [List.cons_append, List.nil_append] at HOn); clear HO; have HO := HOn; clear HOn)
      | (with_reducible refine own_at_alloc 29 ?_; refine oa_2 HO ?_; intro nB WB HOn; (try simp only [List.cons_append, List.nil_append] at HOn); clear HO; have HO := HOn; clear HOn)
      | (with_reducible refine own_at_load 29 ?_; first | refine ol_2 HO rfl _ _ rfl (by repeat first | apply Has.head | apply Has.tail) rfl ?_ | refine op_2 HO rfl _ _ _ _ rfl (by repeat first | apply Has.head | apply Has.tail) (by repeat first | apply Part.done | apply Part.take | apply Part.skip) ?_)
      | (with_reducible refine own_at_store 29 ?_; refine os_2 HO _ rfl rfl _ _ rfl (by repeat first | apply Sto.head | apply Sto.tail | apply Patch.put | apply Patch.skip | apply Patch.done) rfl ?_; intro WB HOn; clear HO; have HO := HOn; clear HOn)
      | (with_reducible refine own_at_box 4 ?_; refine sb_0 HO (.bool _) rfl rfl ?_; intro nB WB HOn; (try simp only [List.cons_append, List.nil_append] at HOn); clear HO; have HO := HOn; clear HOn)
      | (with_reducible refine own_at_alloc 4 ?_; refine sa_0 HO ?_; intro nB WB HOn; (try simp only [List.cons_append, List.nil_append] at HOn); clear HO; have HO := HOn; clear HOn)
      | (with_reducible refine own_at_load 4 ?_; refine sl_0 HO rfl _ _ _ _ rfl (by repeat first | apply Has.head | apply Has.tail) rfl ?_)
      | (with_reducible refine own_at_store 4 ?_; refine st_0 HO (.bool _) rfl rfl _ _ rfl (by repeat first | apply Sto.head | apply Sto.tail | apply Patch.put | apply Patch.skip | apply Patch.done) rfl ?_; intro WB HOn; clear HO; have HO := HOn; clear HOn)
      | (with_reducible refine own_at_box 3 ?_; refine sb_1 HO (.int .i64 _) rfl rfl ?_; intro nB WB HOn; (try simp only [List.cons_append, List.nil_append] at HOn); clear HO; have HO := HOn; clear HOn)
      | (with_reducible refine own_at_alloc 3 ?_; refine sa_1 HO ?_; intro nB WB HOn; (try simp only [List.cons_append, List.nil_append] at HOn); clear HO; have HO := HOn; clear HOn)
      | (with_reducible refine own_at_load 3 ?_; refine sl_1 HO rfl _ _ _ _ rfl (by repeat first | apply Has.head | apply Has.tail) rfl ?_)
      | (with_reducible refine own_at_store 3 ?_; refine st_1 HO (.int .i64 _) rfl rfl _ _ rfl (by repeat first | apply Sto.head | apply Sto.tail | apply Patch.put | apply Patch.skip | apply Patch.done) rfl ?_; intro WB HOn; clear HO; have HO := HOn; clear HOn)
      | (with_reducible refine own_at_box 30 ?_; refine sb_2 HO (.slice _ _ _) rfl rfl ?_; intro nB WB HOn; (try simp only [List.cons_append, List.nil_append] at HOn); clear HO; have HO := HOn; clear HOn)
      | (with_reducible refine own_at_alloc 30 ?_; refine sa_2 HO ?_; intro nB WB HOn; (try simp only [List.cons_append, List.nil_append] at HOn); clear HO; have HO := HOn; clear HOn)
      | (with_reducible refine own_at_load 30 ?_; refine sl_2 HO rfl _ _ _ _ rfl (by repeat first | apply Has.head | apply Has.tail) rfl ?_)
      | (with_reducible refine own_at_store 30 ?_; refine st_2 HO (.slice _ _ _) rfl rfl _ _ rfl (by repeat first | apply Sto.head | apply Sto.tail | apply Patch.put | apply Patch.skip | apply Patch.done) rfl ?_; intro WB HOn; clear HO; have HO := HOn; clear HOn))
  refine (next_at _ _ _ _ _ _ _ _ _ _ _ _ _ _ _ _ _ 2 (cg3 - 1) [⟨3, 1, 0, 0, 0, 2⟩, ⟨3, 1, 0, 0, 0, 3⟩] g3 6 _ _ _ _ _ _ _ rfl (by have := hcg3; simp at this; omega) rfl (fun hne => ⟨(HO.rng 0 _ _ _ rfl hne).1, (HO.rng 0 _ _ _ rfl hne).2.1⟩) (by simp) true false (some ⟨g3, 12, none⟩) (by decide) (by decide) (by unfold tailA; rw [if_neg (by have := hcg3; simp at this; omega)])).mono ?_
  rintro e wc ⟨rfl, hb⟩
  have HOn := (HO.below hb).dropR inL_len (by decide) 0 _ _ _ rfl 1 12 [⟨3, 1, 0, 0, 0, 3⟩] rfl rfl
  clear HO hb
  have HO := HOn
  clear HOn
  go_wp2_with (first
      | (with_reducible refine own_at_box 32 ?_; refine ob_0 HO _ rfl ?_; intro nB WB HOn; (try simp only [List.cons_append, List.nil_append] at HOn); clear HO; have HO := HOn; clear HOn)
      | (with_reducible refine own_at_alloc 32 ?_; refine oa_0 HO ?_; intro nB WB HOn; (try simp only [List.cons_append, List.nil_append] at HOn); clear HO; have HO := HOn; clear HOn)
      | (with_reducible refine own_at_load 32 ?_; first | refine ol_0 HO rfl _ _ rfl (by repeat first | apply Has.head | apply Has.tail) rfl ?_ | refine op_0 HO rfl _ _ _ _ rfl (by repeat first | apply Has.head | apply Has.tail) (by repeat first | apply Part.done | apply Part.take | apply Part.skip) ?_)
      | (with_reducible refine own_at_store 32 ?_; refine os_0 HO _ rfl rfl _ _ rfl (by repeat first | apply Sto.head | apply Sto.tail | apply Patch.put | apply Patch.skip | apply Patch.done) rfl ?_; intro WB HOn; clear HO; have HO := HOn; clear HOn)
      | (with_reducible refine own_at_box 27 ?_; refine ob_1 HO _ rfl ?_; intro nB WB HOn; (try simp only [List.cons_append, List.nil_append] at HOn); clear HO; have HO := HOn; clear HOn)
      | (with_reducible refine own_at_alloc 27 ?_; refine oa_1 HO ?_; intro nB WB HOn; (try simp only [List.cons_append, List.nil_append] at HOn); clear HO; have HO := HOn; clear HOn)
      | (with_reducible refine own_at_load 27 ?_; first | refine ol_1 HO rfl _ _ rfl (by repeat first | apply Has.head | apply Has.tail) rfl ?_ | refine op_1 HO rfl _ _ _ _ rfl (by repeat first | apply Has.head | apply Has.tail) (by repeat first | apply Part.done | apply Part.take | apply Part.skip) ?_)
      | (with_reducible refine own_at_store 27 ?_; refine os_1 HO _ rfl rfl _ _ rfl (by repeat first | apply Sto.head | apply Sto.tail | apply Patch.put | apply Patch.skip | apply Patch.done) rfl ?_; intro WB HOn; clear HO; have HO := HOn; clear HOn)
      | (with_reducible refine own_at_box 29 ?_; refine ob_2 HO _ rfl ?_; intro nB WB HOn; (try simp only [List.cons_append, List.nil_append] at HOn); clear HO; have HO := HOn; clear HOn)
      | (with_reducible refine own_at_alloc 29 ?_; refine oa_2 HO ?_; intro nB WB HOn; (try simp only [List.cons_append, List.nil_append] at HOn); clear HO; have HO := HOn; clear HOn)
      | (with_reducible refine own_at_load 29 ?_; first | refine ol_2 HO rfl _ _ rfl (by repeat first | apply Has.head | apply Has.tail) rfl ?_ | refine op_2 HO rfl _ _ _ _ rfl (by repeat first | apply Has.head | apply Has.tail) (by repeat first | apply Part.done | apply Part.take | apply Part.skip) ?_)
      | (with_reducible refine own_at_store 29 ?_; refine os_2 HO _ rfl rfl _ _ rfl (by repeat first | apply Sto.head | apply Sto.tail | apply Patch.put | apply Patch.skip | apply Patch.done) rfl ?_; intro WB HOn; clear HO; have HO := HOn; clear HOn)
      | (with_reducible refine own_at_box 4 ?_; refine sb_0 HO (.bool _) rfl rfl ?_; intro nB WB HOn; (try simp only [List.cons_append, List.nil_append] at HOn); clear HO; have HO := HOn; clear HOn)
      | (with_reducible refine own_at_alloc 4 ?_; refine sa_0 HO ?_; intro nB WB HOn; (try simp only [List.cons_append, List.nil_append] at HOn); clear HO; have HO := HOn; clear HOn)
      | (with_reducible refine own_at_load 4 ?_; refine sl_0 HO rfl _ _ _ _ rfl (by repeat first | apply Has.head | apply Has.tail) rfl ?_)
      | (with_reducible refine own_at_store 4 ?_; refine st_0 HO (.bool _) rfl rfl _ _ rfl (by repeat first | apply Sto.head | apply Sto.tail | apply Patch.put | apply Patch.skip | apply Patch.done) rfl ?_; intro WB HOn; clear HO; have HO := HOn; clear HOn)
      | (with_reducible refine own_at_box 3 ?_; refine sb_1 HO (.int .i64 _) rfl rfl ?_; intro nB WB HOn; (try simp only [List.cons_append, List.nil_append] at HOn); clear HO; have HO := HOn; clear HOn)
      | (with_reducible refine own_at_alloc 3 ?_; refine sa_1 HO ?_; intro nB WB HOn; (try simp only [List.cons_append, List.nil_append] at HOn); clear HO; have HO := HOn; clear HOn)
      | (with_reducible refine own_at_load 3 ?_; refine sl_1 HO rfl _ _ _ _ rfl (by repeat first | apply Has.head | apply Has.tail) rfl ?_)
      | (with_reducible refine own_at_store 3 ?_; refine st_1 HO (.int .i64 _) rfl rfl _ _ rfl (by repeat first | apply Sto.head | apply Sto.tail | apply Patch.put | apply Patch.skip | apply Patch.done) rfl ?_; intro WB HOn; clear HO; have HO := HOn; clear HOn)
      | (with_reducible refine own_at_box 30 ?_; refine sb_2 HO (.slice _ _ _) rfl rfl ?_; intro nB WB HOn; (try simp only [List.cons_append, List.nil_append] at HOn); clear HO; have HO := HOn; clear HOn)
      | (with_reducible refine own_at_alloc 30 ?_; refine sa_2 HO ?_; intro nB WB HOn; (try simp only [List.cons_append, List.nil_append] at HOn); clear HO; have HO := HOn; clear HOn)
      | (with_reducible refine own_at_load 30 ?_; refine sl_2 HO rfl _ _ _ _ rfl (by repeat first | apply Has.head | apply Has.tail) rfl ?_)
      | (with_reducible refine own_at_store 30 ?_; refine st_2 HO (.slice _ _ _) rfl rfl _ _ rfl (by repeat first | apply Sto.head | apply Sto.tail | apply Patch.put | apply Patch.skip | apply Patch.done) rfl ?_; intro WB HOn; clear HO; have HO := HOn; clear HOn)
      | (go_at_call 18; refine (next_frozen _ _ _ _ _ _ _ _ _ _ _ _ _ _ _ _ _ _ _ _ _).mono ?_; rintro e wc ⟨rfl, hb⟩; have HOn := HO.below hb; clear HO hb; have HO := HOn; clear HOn))
  refine (waiting_f _ _ _ _ _ _ _ _ _ _ _ _ _ _ _ _ _ _ _ (cg3 - 1 - 1) [⟨3, 1, 0, 0, 0, 3⟩] g3 12 _ (by have := hcg3; simp at this ⊢; omega) (by omega) (fun _ => rfl) (fun hne => ⟨(HO.rng 0 _ _ _ rfl hne).1, (HO.rng 0 _ _ _ rfl hne).2.1⟩) (by simp)).mono ?_
  rintro e wc ⟨v9, rfl, ho9, hb⟩
  obtain ⟨A9, c9, rfl⟩ := row_sl ho9
  have HOn := HO.below hb
  clear HO hb ho9
  have HO := HOn
  clear HOn
  go_wp2_with (first
      | (with_reducible refine own_at_box 32 ?_; refine ob_0 HO _ rfl ?_; intro nB WB HOn; (try simp only [List.cons_append, List.nil_append] at HOn); clear HO; have HO := HOn; clear HOn)
      | (with_reducible refine own_at_alloc 32 ?_; refine oa_0 HO ?_; intro nB WB HOn; (try simp only [List.cons_append, List.nil_append] at HOn); clear HO; have HO := HOn; clear HOn)
      | (with_reducible refine own_at_load 32 ?_; first | refine ol_0 HO rfl _ _ rfl (by repeat first | apply Has.head | apply Has.tail) rfl ?_ | refine op_0 HO rfl _ _ _ _ rfl (by repeat first | apply Has.head | apply Has.tail) (by repeat first | apply Part.done | apply Part.take | apply Part.skip) ?_)
      | (with_reducible refine own_at_store 32 ?_; refine os_0 HO _ rfl rfl _ _ rfl (by repeat first | apply Sto.head | apply Sto.tail | apply Patch.put | apply Patch.skip | apply Patch.done) rfl ?_; intro WB HOn; clear HO; have HO := HOn; clear HOn)
      | (with_reducible refine own_at_box 27 ?_; refine ob_1 HO _ rfl ?_; intro nB WB HOn; (try simp only [List.cons_append, List.nil_append] at HOn); clear HO; have HO := HOn; clear HOn)
      | (with_reducible refine own_at_alloc 27 ?_; refine oa_1 HO ?_; intro nB WB HOn; (try simp only [List.cons_append, List.nil_append] at HOn); clear HO; have HO := HOn; clear HOn)
      | (with_reducible refine own_at_load 27 ?_; first | refine ol_1 HO rfl _ _ rfl (by repeat first | apply Has.head | apply Has.tail) rfl ?_ | refine op_1 HO rfl _ _ _ _ rfl (by repeat first | apply Has.head | apply Has.tail) (by repeat first | apply Part.done | apply Part.take | apply Part.skip) ?_)
      | (with_reducible refine own_at_store 27 ?_; refine os_1 HO _ rfl rfl _ _ rfl (by repeat first | apply Sto.head | apply Sto.tail | apply Patch.put | apply Patch.skip | apply Patch.done) rfl ?_; intro WB HOn; clear HO; have HO := HOn; clear HOn)
      | (with_reducible refine own_at_box 29 ?_; refine ob_2 HO _ rfl ?_; intro nB WB HOn; (try simp only [List.cons_append, List.nil_append] at HOn); clear HO; have HO := HOn; clear HOn)
      | (with_reducible refine own_at_alloc 29 ?_; refine oa_2 HO ?_; intro nB WB HOn; (try simp only [List.cons_append, List.nil_append] at HOn); clear HO; have HO := HOn; clear HOn)
      | (with_reducible refine own_at_load 29 ?_; first | refine ol_2 HO rfl _ _ rfl (by repeat first | apply Has.head | apply Has.tail) rfl ?_ | refine op_2 HO rfl _ _ _ _ rfl (by repeat first | apply Has.head | apply Has.tail) (by repeat first | apply Part.done | apply Part.take | apply Part.skip) ?_)
      | (with_reducible refine own_at_store 29 ?_; refine os_2 HO _ rfl rfl _ _ rfl (by repeat first | apply Sto.head | apply Sto.tail | apply Patch.put | apply Patch.skip | apply Patch.done) rfl ?_; intro WB HOn; clear HO; have HO := HOn; clear HOn)
      | (with_reducible refine own_at_box 4 ?_; refine sb_0 HO (.bool _) rfl rfl ?_; intro nB WB HOn; (try simp only [List.cons_append, List.nil_append] at HOn); clear HO; have HO := HOn; clear HOn)
      | (with_reducible refine own_at_alloc 4 ?_; refine sa_0 HO ?_; intro nB WB HOn; (try simp only [List.cons_append, List.nil_append] at HOn); clear HO; have HO := HOn; clear HOn)
      | (with_reducible refine own_at_load 4 ?_; refine sl_0 HO rfl _ _ _ _ rfl (by repeat first | apply Has.head | apply Has.tail) rfl ?_)
      | (with_reducible refine own_at_store 4 ?_; refine st_0 HO (.bool _) rfl rfl _ _ rfl (by repeat first | apply Sto.head | apply Sto.tail | apply Patch.put | apply Patch.skip | apply Patch.done) rfl ?_; intro WB HOn; clear HO; have HO := HOn; clear HOn)
      | (with_reducible refine own_at_box 3 ?_; refine sb_1 HO (.int .i64 _) rfl rfl ?_; intro nB WB HOn; (try simp only [List.cons_append, List.nil_append] at HOn); clear HO; have HO := HOn; clear HOn)
      | (with_reducible refine own_at_alloc 3 ?_; refine sa_1 HO ?_; intro nB WB HOn; (try simp only [List.cons_append, List.nil_append] at HOn); clear HO; have HO := HOn; clear HOn)
      | (with_reducible refine own_at_load 3 ?_; refine sl_1 HO rfl _ _ _ _ rfl (by repeat first | apply Has.head | apply Has.tail) rfl ?_)
      | (with_reducible refine own_at_store 3 ?_; refine st_1 HO (.int .i64 _) rfl rfl _ _ rfl (by repeat first | apply Sto.head | apply Sto.tail | apply Patch.put | apply Patch.skip | apply Patch.done) rfl ?_; intro WB HOn; clear HO; have HO := HOn; clear HOn)
      | (with_reducible refine own_at_box 30 ?_; refine sb_2 HO (.slice _ _ _) rfl rfl ?_; intro nB WB HOn; (try simp only [List.cons_append, List.nil_append] at HOn); clear HO; have HO := HOn; clear HOn)
      | (with_reducible refine own_at_alloc 30 ?_; refine sa_2 HO ?_; intro nB WB HOn; (try simp only [List.cons_append, List.nil_append] at HOn); clear HO; have HO := HOn; clear HOn)
      | (with_reducible refine own_at_load 30 ?_; refine sl_2 HO rfl _ _ _ _ rfl (by repeat first | apply Has.head | apply Has.tail) rfl ?_)
      | (with_reducible refine own_at_store 30 ?_; refine st_2 HO (.slice _ _ _) rfl rfl _ _ rfl (by repeat first | apply Sto.head | apply Sto.tail | apply Patch.put | apply Patch.skip | apply Patch.done) rfl ?_; intro WB HOn; clear HO; have HO := HOn; clear HOn))
  go_returns
  exact ⟨by first | rfl | (simp; done), HO.q⟩
end Go.Proofs.Ytgcedookbblibaa
