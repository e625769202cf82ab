/- Layer 39: the next input; what waits. -/
import Derived.Test.YtgcedookbblibaaFz5
namespace Go.Proofs.Ytgcedookbblibaa
open Go Go.RowKit
set_option linter.unusedSimpArgs false
set_option linter.unusedVariables false
def tailA (c b o : Nat) : Option Addr := if c = 1 then some ⟨b, o, none⟩ else some ⟨b, o + 6, none⟩
theorem elem_in : Try.prog.elem 30 = 29 := by kernel_rfl
theorem size_in (w : World) : (sizeOf (Try.prog.elem 30)).run Try.prog w = .ok 6 w := by rw [elem_in]; kernel_rfl
theorem slice_tail (b o n c : Nat) (h : 1 ≤ n) (hc : n ≤ c) (w : World) : (Instr.slice 30 (.slice (some ⟨b, o, none⟩) n c) (some (.int .i64 1)) none none).run Try.prog w = .ok (.slice (tailA c b o) (n - 1) (c - 1)) w := by
  rw [run_slice_l w _ _ n c clone_und .i64 1 (by omega) (by omega), size_in]
  unfold tailA
  by_cases hc1 : c = 1
  · subst hc1
    simp [Result.andThen, sliced, Addr.add]
    try omega
  · rw [if_neg hc1]
    simp only [Result.andThen, sliced, Option.map_some]
    rw [if_neg (by omega)]
    simp [Addr.add]
    try (intro h; omega)
set_option maxRecDepth 100000 in
set_option maxHeartbeats 16000000 in
theorem next_frozen (d0 d1 : Int) (d2 : Bool) (d3 : Int) (d4 d5 : Bool) (d6 d7 : Int) (d8 d10 : Bool) (d11 d12 d13 d14 d15 d16 : Int) (d17 : Bool) (a : Option Addr) (l c : Nat) (w : World) :
    Calls Try.prog 18 #[.agg #[i6 d0, uw d1, .bool d2, i6 d3, .bool d4, .bool d5, i6 d6, uw d7, .bool d8, .bool true, .bool d10, i6 d11, i6 d12, i6 d13, i6 d14, uw d15, i6 d16, .bool d17, .slice a l c]] w fun e w' => e = .returned (.tuple #[.agg #[i6 d0, uw d1, .bool d2, i6 d3, .bool d4, .bool d5, i6 d6, uw d7, .bool d8, .bool true, .bool d10, i6 d11, i6 d12, i6 d13, i6 d14, uw d15, i6 d16, .bool d17, .slice a l c], .agg #[i6 0, i6 0, i6 0, i6 0, uw 0, i6 0], .bool false]) ∧ Below w.heap.size w w' := by
  go_enter Try.func18, Try.ntmps18
  have HO := Own.nil w
  go_wp2_with (first
      | (with_reducible ((first | (refine own_at_box 32 ?_; refine ob_0 HO _ rfl ?_) | (refine own_at_alloc 32 ?_; refine oa_0 HO ?_) | (refine own_at_box 27 ?_; refine ob_1 HO _ rfl ?_) | (refine own_at_alloc 27 ?_; refine oa_1 HO ?_) | (refine own_at_box 29 ?_; refine ob_2 HO _ rfl ?_) | (refine own_at_alloc 29 ?_; refine oa_2 HO ?_) | (refine own_at_box 4 ?_; refine sb_0 HO (.bool _) rfl rfl ?_) | (refine own_at_alloc 4 ?_; refine sa_0 HO ?_) | (refine own_at_box 3 ?_; refine sb_1 HO (.int .i64 _) rfl rfl ?_) | (refine own_at_alloc 3 ?_; refine sa_1 HO ?_) | (refine own_at_box 30 ?_; refine sb_2 HO (.slice _ _ _) rfl rfl ?_) | (refine own_at_alloc 30 ?_; refine sa_2 HO ?_)); intro nB WB HOn; (try simp only [List.cons_append, List.nil_append] at HOn); clear HO; have HO := HOn; clear HOn))
      | (with_reducible (first | (refine own_at_load 32 ?_; refine op_0 HO rfl _ _ _ _ rfl (by repeat first | apply Has.head | apply Has.tail) (by repeat first | apply Part.done | apply Part.take | apply Part.skip) ?_) | (refine own_at_load 27 ?_; refine op_1 HO rfl _ _ _ _ rfl (by repeat first | apply Has.head | apply Has.tail) (by repeat first | apply Part.done | apply Part.take | apply Part.skip) ?_) | (refine own_at_load 29 ?_; refine op_2 HO rfl _ _ _ _ rfl (by repeat first | apply Has.head | apply Has.tail) (by repeat first | apply Part.done | apply Part.take | apply Part.skip) ?_) | (refine own_at_load 4 ?_; refine sl_0 HO rfl _ _ _ _ rfl (by repeat first | apply Has.head | apply Has.tail) rfl ?_) | (refine own_at_load 3 ?_; refine sl_1 HO rfl _ _ _ _ rfl (by repeat first | apply Has.head | apply Has.tail) rfl ?_) | (refine own_at_load 30 ?_; refine sl_2 HO rfl _ _ _ _ rfl (by repeat first | apply Has.head | apply Has.tail) rfl ?_)))
      | (with_reducible ((first | (refine own_at_store 32 ?_; refine os_0 HO _ rfl rfl _ _ rfl (by repeat first | apply Sto.head | apply Sto.tail | apply Patch.put | apply Patch.skip | apply Patch.done) rfl ?_) | (refine own_at_store 27 ?_; refine os_1 HO _ rfl rfl _ _ rfl (by repeat first | apply Sto.head | apply Sto.tail | apply Patch.put | apply Patch.skip | apply Patch.done) rfl ?_) | (refine own_at_store 29 ?_; refine os_2 HO _ rfl rfl _ _ rfl (by repeat first | apply Sto.head | apply Sto.tail | apply Patch.put | apply Patch.skip | apply Patch.done) rfl ?_) | (refine own_at_store 4 ?_; refine st_0 HO (.bool _) rfl rfl _ _ rfl (by repeat first | apply Sto.head | apply Sto.tail | apply Patch.put | apply Patch.skip | apply Patch.done) rfl ?_) | (refine own_at_store 3 ?_; refine st_1 HO (.int .i64 _) rfl rfl _ _ rfl (by repeat first | apply Sto.head | apply Sto.tail | apply Patch.put | apply Patch.skip | apply Patch.done) rfl ?_) | (refine own_at_store 30 ?_; refine st_2 HO (.slice _ _ _) rfl rfl _ _ rfl (by repeat first | apply Sto.head | apply Sto.tail | apply Patch.put | apply Patch.skip | apply Patch.done) rfl ?_)); intro WB HOn; clear HO; have HO := HOn; clear HOn)))
  exact own_ret_cct HO _ _ _ _ _ rfl 1 2 _ _ _ _ _ rfl rfl rfl rfl rfl _ _ Try.underlying32 rfl oinfo_0 Try.underlying29 rfl oinfo_2 rfl ⟨rfl, HO.q⟩
set_option maxRecDepth 100000 in
set_option maxHeartbeats 16000000 in
theorem next_none (d0 d1 : Int) (d2 : Bool) (d3 : Int) (d4 d5 : Bool) (d6 d7 : Int) (d8 d10 : Bool) (d11 d12 d13 d14 d15 d16 : Int) (d17 : Bool) (a : Option Addr) (c : Nat) (w : World) :
    Calls Try.prog 18 #[.agg #[i6 d0, uw d1, .bool d2, i6 d3, .bool d4, .bool d5, i6 d6, uw d7, .bool d8, .bool false, .bool d10, i6 d11, i6 d12, i6 d13, i6 d14, uw d15, i6 d16, .bool d17, .slice a 0 c]] w fun e w' => e = .returned (.tuple #[.agg #[i6 d0, uw d1, .bool d2, i6 d3, .bool d4, .bool d5, i6 d6, uw d7, .bool d8, .bool false, .bool d10, i6 d11, i6 d12, i6 d13, i6 d14, uw d15, i6 d16, .bool d17, .slice a 0 c], .agg #[i6 0, i6 0, i6 0, i6 0, uw 0, i6 0], .bool false]) ∧ Below w.heap.size w w' := by
  go_enter Try.func18, Try.ntmps18
  have HO := Own.nil w
  go_wp2_with (first
      | (with_reducible ((first | (refine own_at_box 32 ?_; refine ob_0 HO _ rfl ?_) | (refine own_at_alloc 32 ?_; refine oa_0 HO ?_) | (refine own_at_box 27 ?_; refine ob_1 HO _ rfl ?_) | (refine own_at_alloc 27 ?_; refine oa_1 HO ?_) | (refine own_at_box 29 ?_; refine ob_2 HO _ rfl ?_) | (refine own_at_alloc 29 ?_; refine oa_2 HO ?_) | (refine own_at_box 4 ?_; refine sb_0 HO (.bool _) rfl rfl ?_) | (refine own_at_alloc 4 ?_; refine sa_0 HO ?_) | (refine own_at_box 3 ?_; refine sb_1 HO (.int .i64 _) rfl rfl ?_) | (refine own_at_alloc 3 ?_; refine sa_1 HO ?_) | (refine own_at_box 30 ?_; refine sb_2 HO (.slice _ _ _) rfl rfl ?_) | (refine own_at_alloc 30 ?_; refine sa_2 HO ?_)); intro nB WB HOn; (try simp only [List.cons_append, List.nil_append] at HOn); clear HO; have HO := HOn; clear HOn))
      | (with_reducible (first | (refine own_at_load 32 ?_; refine op_0 HO rfl _ _ _ _ rfl (by repeat first | apply Has.head | apply Has.tail) (by repeat first | apply Part.done | apply Part.take | apply Part.skip) ?_) | (refine own_at_load 27 ?_; refine op_1 HO rfl _ _ _ _ rfl (by repeat first | apply Has.head | apply Has.tail) (by repeat first | apply Part.done | apply Part.take | apply Part.skip) ?_) | (refine own_at_load 29 ?_; refine op_2 HO rfl _ _ _ _ rfl (by repeat first | apply Has.head | apply Has.tail) (by repeat first | apply Part.done | apply Part.take | apply Part.skip) ?_) | (refine own_at_load 4 ?_; refine sl_0 HO rfl _ _ _ _ rfl (by repeat first | apply Has.head | apply Has.tail) rfl ?_) | (refine own_at_load 3 ?_; refine sl_1 HO rfl _ _ _ _ rfl (by repeat first | apply Has.head | apply Has.tail) rfl ?_) | (refine own_at_load 30 ?_; refine sl_2 HO rfl _ _ _ _ rfl (by repeat first | apply Has.head | apply Has.tail) rfl ?_)))
      | (with_reducible ((first | (refine own_at_store 32 ?_; refine os_0 HO _ rfl rfl _ _ rfl (by repeat first | apply Sto.head | apply Sto.tail | apply Patch.put | apply Patch.skip | apply Patch.done) rfl ?_) | (refine own_at_store 27 ?_; refine os_1 HO _ rfl rfl _ _ rfl (by repeat first | apply Sto.head | apply Sto.tail | apply Patch.put | apply Patch.skip | apply Patch.done) rfl ?_) | (refine own_at_store 29 ?_; refine os_2 HO _ rfl rfl _ _ rfl (by repeat first | apply Sto.head | apply Sto.tail | apply Patch.put | apply Patch.skip | apply Patch.done) rfl ?_) | (refine own_at_store 4 ?_; refine st_0 HO (.bool _) rfl rfl _ _ rfl (by repeat first | apply Sto.head | apply Sto.tail | apply Patch.put | apply Patch.skip | apply Patch.done) rfl ?_) | (refine own_at_store 3 ?_; refine st_1 HO (.int .i64 _) rfl rfl _ _ rfl (by repeat first | apply Sto.head | apply Sto.tail | apply Patch.put | apply Patch.skip | apply Patch.done) rfl ?_) | (refine own_at_store 30 ?_; refine st_2 HO (.slice _ _ _) rfl rfl _ _ rfl (by repeat first | apply Sto.head | apply Sto.tail | apply Patch.put | apply Patch.skip | apply Patch.done) rfl ?_)); intro WB HOn; clear HO; have HO := HOn; clear HOn)))
  exact own_ret_cct HO _ _ _ _ _ rfl 1 2 _ _ _ _ _ rfl rfl rfl rfl rfl _ _ Try.underlying32 rfl oinfo_0 Try.underlying29 rfl oinfo_2 rfl ⟨rfl, HO.q⟩
set_option maxRecDepth 100000 in
set_option maxHeartbeats 16000000 in
theorem next_some (d0 d1 : Int) (d2 : Bool) (d3 : Int) (d4 d5 : Bool) (d6 d7 : Int) (d8 d10 : Bool) (d11 d12 d13 d14 d15 d16 : Int) (d17 : Bool) (n c : Nat) (ws : List In) (b o : Nat) (i0 i1 i2 i3 i4 i5 : Int) (w : World) (hn : ws.length = n) (hc : n ≤ c) (hx : ws[0]? = some ⟨i0, i1, i2, i3, i4, i5⟩) (hB : cellsR inL ws ≠ [] → b < w.heap.size ∧ w.rangeAt b o (cellsR inL ws)) (hl : n ≤ 1000) :
    Calls Try.prog 18 #[.agg #[i6 d0, uw d1, .bool d2, i6 d3, .bool d4, .bool d5, i6 d6, uw d7, .bool d8, .bool false, .bool d10, i6 d11, i6 d12, i6 d13, i6 d14, uw d15, i6 d16, .bool d17, .slice (some ⟨b, o, none⟩) n c]] w fun e w' => e = .returned (.tuple #[.agg #[i6 d0, uw d1, .bool d2, i6 d3, .bool d4, .bool d5, i6 d6, uw d7, .bool d8, .bool (d10 && pressB i0), .bool (d10 && !pressB i0), i6 d11, i6 d12, i6 d13, i6 d14, uw d15, i6 d16, .bool d17, .slice (tailA c b o) (n - 1) (c - 1)], .agg #[i6 i0, i6 i1, i6 i2, i6 i3, uw i4, i6 i5], .bool true]) ∧ Below w.heap.size w w' := by
  have hn1 : 1 ≤ n := by rw [← hn]; exact (List.getElem?_eq_some_iff.1 hx).1
  have hsl := slice_tail b o n c hn1 hc
  have HX := Lib.hid hx
  have HB := Lib.hid hB
  have hz : (0 : Int) < (n : Int) := by omega
  have hz2 : ¬ n = 0 := by omega
  have hz3 : 0 < n := by omega
  obtain ⟨AA, hAA⟩ : ∃ AA, tailA c b o = AA := ⟨_, rfl⟩
  rw [hAA] at hsl ⊢
  clear hx hB hn hAA
  obtain ⟨B, hP⟩ : ∃ B, pressB i0 = B := ⟨_, rfl⟩
  have HP := Lib.hid hP
  rw [hP]
  clear hP
  cases d10
  · skip
    go_enter Try.func18, Try.ntmps18
    have HO := (Own.nil w).pushArg b o (cellsR inL ws) HB.out
    go_upto_region 7 with (first
      | (with_reducible ((first | (refine own_at_box 32 ?_; refine ob_0 HO _ rfl ?_) | (refine own_at_alloc 32 ?_; refine oa_0 HO ?_) | (refine own_at_box 27 ?_; refine ob_1 HO _ rfl ?_) | (refine own_at_alloc 27 ?_; refine oa_1 HO ?_) | (refine own_at_box 29 ?_; refine ob_2 HO _ rfl ?_) | (refine own_at_alloc 29 ?_; refine oa_2 HO ?_) | (refine own_at_box 4 ?_; refine sb_0 HO (.bool _) rfl rfl ?_) | (refine own_at_alloc 4 ?_; refine sa_0 HO ?_) | (refine own_at_box 3 ?_; refine sb_1 HO (.int .i64 _) rfl rfl ?_) | (refine own_at_alloc 3 ?_; refine sa_1 HO ?_) | (refine own_at_box 30 ?_; refine sb_2 HO (.slice _ _ _) rfl rfl ?_) | (refine own_at_alloc 30 ?_; refine sa_2 HO ?_)); intro nB WB HOn; (try simp only [List.cons_append, List.nil_append] at HOn); clear HO; have HO := HOn; clear HOn))
      | (with_reducible (first | (refine own_at_load 32 ?_; refine op_0 HO rfl _ _ _ _ rfl (by repeat first | apply Has.head | apply Has.tail) (by repeat first | apply Part.done | apply Part.take | apply Part.skip) ?_) | (refine own_at_load 27 ?_; refine op_1 HO rfl _ _ _ _ rfl (by repeat first | apply Has.head | apply Has.tail) (by repeat first | apply Part.done | apply Part.take | apply Part.skip) ?_) | (refine own_at_load 29 ?_; refine op_2 HO rfl _ _ _ _ rfl (by repeat first | apply Has.head | apply Has.tail) (by repeat first | apply Part.done | apply Part.take | apply Part.skip) ?_) | (refine own_at_load 4 ?_; refine sl_0 HO rfl _ _ _ _ rfl (by repeat first | apply Has.head | apply Has.tail) rfl ?_) | (refine own_at_load 3 ?_; refine sl_1 HO rfl _ _ _ _ rfl (by repeat first | apply Has.head | apply Has.tail) rfl ?_) | (refine own_at_load 30 ?_; refine sl_2 HO rfl _ _ _ _ rfl (by repeat first | apply Has.head | apply Has.tail) rfl ?_)))
      | (with_reducible ((first | (refine own_at_store 32 ?_; refine os_0 HO _ rfl rfl _ _ rfl (by repeat first | apply Sto.head | apply Sto.tail | apply Patch.put | apply Patch.skip | apply Patch.done) rfl ?_) | (refine own_at_store 27 ?_; refine os_1 HO _ rfl rfl _ _ rfl (by repeat first | apply Sto.head | apply Sto.tail | apply Patch.put | apply Patch.skip | apply Patch.done) rfl ?_) | (refine own_at_store 29 ?_; refine os_2 HO _ rfl rfl _ _ rfl (by repeat first | apply Sto.head | apply Sto.tail | apply Patch.put | apply Patch.skip | apply Patch.done) rfl ?_) | (refine own_at_store 4 ?_; refine st_0 HO (.bool _) rfl rfl _ _ rfl (by repeat first | apply Sto.head | apply Sto.tail | apply Patch.put | apply Patch.skip | apply Patch.done) rfl ?_) | (refine own_at_store 3 ?_; refine st_1 HO (.int .i64 _) rfl rfl _ _ rfl (by repeat first | apply Sto.head | apply Sto.tail | apply Patch.put | apply Patch.skip | apply Patch.done) rfl ?_) | (refine own_at_store 30 ?_; refine st_2 HO (.slice _ _ _) rfl rfl _ _ rfl (by repeat first | apply Sto.head | apply Sto.tail | apply Patch.put | apply Patch.skip | apply Patch.done) rfl ?_)); intro WB HOn; clear HO; have HO := HOn; clear HOn))
      | (with_reducible refine own_at_load 29 ?_; refine wpList_own_elem rfl 29 _ rfl HO _ Try.underlying29 rfl oinfo_2 0 _ _ ws rfl inL_len (by decide) 0 _ HX.out rfl _ rfl ?_)
      | (go_at_call 34; refine (press_f _ _ _ _ _ _ _).mono ?_; rintro e wc ⟨rfl, hb⟩; rw [HP.out]; have HOn := HO.below hb; clear HO hb; have HO := HOn; clear HOn)
      | (go_at_call 17; refine (freeze_f _ _ _ _ _ _ _ _ _ _ _ _ _ _ _ _ _ _ _ _ _ _).mono ?_; rintro e wc ⟨rfl, hb⟩; have HOn := HO.below hb; clear HO hb; have HO := HOn; clear HOn))
    obtain ⟨n0, n1, n2, n3, hn0, hn1, hn2, hn3⟩ := HO.names4
    subst hn0 hn1 hn2 hn3
    refine wp_region_held_drew (S := (fun W => Blk W n0 [i6 d0, uw d1, .bool d2, i6 d3, .bool d4, .bool d5, i6 d6, uw d7, .bool d8, .bool false, .bool false, i6 d11, i6 d12, i6 d13, i6 d14, uw d15, i6 d16, .bool d17, .slice AA (n - 1) (c - 1)] ∧ Blk W n3 [i6 i0, i6 i1, i6 i2, i6 i3, uw i4, i6 i5])) (by kernel_rfl) ?_ (fun hHeld => ?_)
    · (try dsimp only); have HOn := HO.drew; clear HO; have HO := HOn; exact ⟨HO.blk 0 _ _ rfl, HO.blk 3 _ _ rfl⟩
    have HOn := HO.drew; clear HO; have HO := HOn; clear HOn
    refine wpAnyH_take (i := 0) (oi := { dst := some 32, op := Op.load 32 (Operand.tmp 1), type := 32, pos := "freeze.go:98", after := #[], guard := none }) (v := .agg (List.toArray [i6 d0, uw d1, .bool d2, i6 d3, .bool d4, .bool d5, i6 d6, uw d7, .bool d8, .bool false, .bool false, i6 d11, i6 d12, i6 d13, i6 d14, uw d15, i6 d16, .bool d17, .slice AA (n - 1) (c - 1)])) rfl (by kernel_rfl) (by kernel_rfl) (by kernel_rfl) (fun _ _ _ h => h) (yieldsIf_load_mid (by rfl) _ _ rfl n0 0 rfl [i6 d0, uw d1, .bool d2, i6 d3, .bool d4, .bool d5, i6 d6, uw d7, .bool d8, .bool false, .bool false, i6 d11, i6 d12, i6 d13, i6 d14, uw d15, i6 d16, .bool d17, .slice AA (n - 1) (c - 1)] _ (fun w hSw => blk_range hSw.1 0 _ rfl) Try.underlying32 rfl oinfo_0) (by assumption) ?_
    try simp only [Act.put, List.setIfInBounds_toArray, List.set_cons_zero, List.set_cons_succ]
    refine wpAnyH_take (i := 1) (oi := { dst := some 33, op := Op.load 29 (Operand.tmp 5), type := 29, pos := "freeze.go:98", after := #[{ on := 2, ground := Ground.gcOnly Departure.lateStores }], guard := none }) (v := .agg (List.toArray [i6 i0, i6 i1, i6 i2, i6 i3, uw i4, i6 i5])) rfl (by kernel_rfl) (by kernel_rfl) (by kernel_rfl) (fun _ _ _ h => h) (yieldsIf_load_mid (by rfl) _ _ rfl n3 0 rfl [i6 i0, i6 i1, i6 i2, i6 i3, uw i4, i6 i5] _ (fun w hSw => blk_range hSw.2 0 _ rfl) Try.underlying29 rfl oinfo_2) (by assumption) ?_
    try simp only [Act.put, List.setIfInBounds_toArray, List.set_cons_zero, List.set_cons_succ]
    refine wpAnyH_ready (rs := [2]) (by kernel_rfl) (by simp) ?_
    refine AllReadyH.cons (o := { dst := none, op := Op.store 32 (Operand.tmp 2) (Operand.tmp 32), type := 0, pos := "freeze.go:98", after := #[{ on := 0, ground := Ground.data }, { on := 0, ground := Ground.phase }, { on := 1, ground := Ground.textOnly Departure.lateStores }], guard := none }) rfl (fun K hK => ?_) AllReadyH.nil
    rw [if_pos (by rfl)]; refine wp_own_storeS 32 _ _ rfl HO 19 oinfo_0 1 _ 0 _ [i6 d0, uw d1, .bool d2, i6 d3, .bool d4, .bool d5, i6 d6, uw d7, .bool d8, .bool false, .bool false, i6 d11, i6 d12, i6 d13, i6 d14, uw d15, i6 d16, .bool d17, .slice AA (n - 1) (c - 1)] rfl rfl rfl rfl [i6 d0, uw d1, .bool d2, i6 d3, .bool d4, .bool d5, i6 d6, uw d7, .bool d8, .bool false, .bool false, i6 d11, i6 d12, i6 d13, i6 d14, uw d15, i6 d16, .bool d17, .slice AA (n - 1) (c - 1)] rfl (by simp) rfl ?_; intro WB HOn; (try simp only [List.set_cons_zero, List.set_cons_succ] at HOn); clear HO; have HO := HOn; clear HOn
    clear hHeld
    refine hK.out _ _ ?_ (fun hHeld => ?_)
    · (try dsimp only); exact ⟨HO.blk 0 _ _ rfl, HO.blk 3 _ _ rfl⟩
    clear hK K
    try simp only [Act.put, List.setIfInBounds_toArray, List.set_cons_zero, List.set_cons_succ]
    refine wpAnyH_ready (rs := [3]) (by kernel_rfl) (by simp) ?_
    refine AllReadyH.cons (o := { dst := none, op := Op.store 29 (Operand.tmp 3) (Operand.tmp 33), type := 0, pos := "freeze.go:98", after := #[{ on := 1, ground := Ground.data }, { on := 2, ground := Ground.chain }, { on := 0, ground := Ground.phase }, { on := 1, ground := Ground.phase }, { on := 2, ground := Ground.phase }], guard := none }) rfl (fun K hK => ?_) AllReadyH.nil
    rw [if_pos (by rfl)]; refine wp_own_storeS 29 _ _ rfl HO 6 oinfo_2 2 _ 0 _ [i6 i0, i6 i1, i6 i2, i6 i3, uw i4, i6 i5] rfl rfl rfl rfl [i6 i0, i6 i1, i6 i2, i6 i3, uw i4, i6 i5] rfl (by simp) rfl ?_; intro WB HOn; (try simp only [List.set_cons_zero, List.set_cons_succ] at HOn); clear HO; have HO := HOn; clear HOn
    clear hHeld
    refine hK.out _ _ ?_ (fun hHeld => ?_)
    · (try dsimp only); exact ⟨HO.blk 0 _ _ rfl, HO.blk 3 _ _ rfl⟩
    clear hK K
    try simp only [Act.put, List.setIfInBounds_toArray, List.set_cons_zero, List.set_cons_succ]
    refine wpAnyH_take (i := 4) (oi := { dst := some 4, op := Op.assign (Operand.const (Value.bool true)), type := 4, pos := "freeze.go:98", after := #[{ on := 3, ground := Ground.chain }, { on := 0, ground := Ground.phase }, { on := 1, ground := Ground.phase }, { on := 2, ground := Ground.phase }, { on := 3, ground := Ground.phase }], guard := none }) (v := ?_) rfl (by kernel_rfl) (by kernel_rfl) (by kernel_rfl) (fun _ _ _ h => h) (Or.inl ⟨by rfl, ?_⟩) (by assumption) ?_
    rotate_left
    · intro w hSw; (try dsimp only at hSw); go_simp; (try with_reducible rfl)
    try simp only [Act.put, List.setIfInBounds_toArray, List.set_cons_zero, List.set_cons_succ]
    refine wpAnyH_done (by kernel_rfl) ?_ _
    go_wp2_with fail
    exact own_ret_cct HO _ _ _ _ _ rfl 1 2 _ _ _ _ _ rfl rfl rfl rfl rfl _ _ Try.underlying32 rfl oinfo_0 Try.underlying29 rfl oinfo_2 rfl ⟨rfl, HO.q⟩
  · cases B
    · skip
      go_enter Try.func18, Try.ntmps18
      have HO := (Own.nil w).pushArg b o (cellsR inL ws) HB.out
      go_upto_region 7 with (first
      | (with_reducible ((first | (refine own_at_box 32 ?_; refine ob_0 HO _ rfl ?_) | (refine own_at_alloc 32 ?_; refine oa_0 HO ?_) | (refine own_at_box 27 ?_; refine ob_1 HO _ rfl ?_) | (refine own_at_alloc 27 ?_; refine oa_1 HO ?_) | (refine own_at_box 29 ?_; refine ob_2 HO _ rfl ?_) | (refine own_at_alloc 29 ?_; refine oa_2 HO ?_) | (refine own_at_box 4 ?_; refine sb_0 HO (.bool _) rfl rfl ?_) | (refine own_at_alloc 4 ?_; refine sa_0 HO ?_) | (refine own_at_box 3 ?_; refine sb_1 HO (.int .i64 _) rfl rfl ?_) | (refine own_at_alloc 3 ?_; refine sa_1 HO ?_) | (refine own_at_box 30 ?_; refine sb_2 HO (.slice _ _ _) rfl rfl ?_) | (refine own_at_alloc 30 ?_; refine sa_2 HO ?_)); intro nB WB HOn; (try simp only [List.cons_append, List.nil_append] at HOn); clear HO; have HO := HOn; clear HOn))
      | (with_reducible (first | (refine own_at_load 32 ?_; refine op_0 HO rfl _ _ _ _ rfl (by repeat first | apply Has.head | apply Has.tail) (by repeat first | apply Part.done | apply Part.take | apply Part.skip) ?_) | (refine own_at_load 27 ?_; refine op_1 HO rfl _ _ _ _ rfl (by repeat first | apply Has.head | apply Has.tail) (by repeat first | apply Part.done | apply Part.take | apply Part.skip) ?_) | (refine own_at_load 29 ?_; refine op_2 HO rfl _ _ _ _ rfl (by repeat first | apply Has.head | apply Has.tail) (by repeat first | apply Part.done | apply Part.take | apply Part.skip) ?_) | (refine own_at_load 4 ?_; refine sl_0 HO rfl _ _ _ _ rfl (by repeat first | apply Has.head | apply Has.tail) rfl ?_) | (refine own_at_load 3 ?_; refine sl_1 HO rfl _ _ _ _ rfl (by repeat first | apply Has.head | apply Has.tail) rfl ?_) | (refine own_at_load 30 ?_; refine sl_2 HO rfl _ _ _ _ rfl (by repeat first | apply Has.head | apply Has.tail) rfl ?_)))
      | (with_reducible ((first | (refine own_at_store 32 ?_; refine os_0 HO _ rfl rfl _ _ rfl (by repeat first | apply Sto.head | apply Sto.tail | apply Patch.put | apply Patch.skip | apply Patch.done) rfl ?_) | (refine own_at_store 27 ?_; refine os_1 HO _ rfl rfl _ _ rfl (by repeat first | apply Sto.head | apply Sto.tail | apply Patch.put | apply Patch.skip | apply Patch.done) rfl ?_) | (refine own_at_store 29 ?_; refine os_2 HO _ rfl rfl _ _ rfl (by repeat first | apply Sto.head | apply Sto.tail | apply Patch.put | apply Patch.skip | apply Patch.done) rfl ?_) | (refine own_at_store 4 ?_; refine st_0 HO (.bool _) rfl rfl _ _ rfl (by repeat first | apply Sto.head | apply Sto.tail | apply Patch.put | apply Patch.skip | apply Patch.done) rfl ?_) | (refine own_at_store 3 ?_; refine st_1 HO (.int .i64 _) rfl rfl _ _ rfl (by repeat first | apply Sto.head | apply Sto.tail | apply Patch.put | apply Patch.skip | apply Patch.done) rfl ?_) | (refine own_at_store 30 ?_; refine st_2 HO (.slice _ _ _) rfl rfl _ _ rfl (by repeat first | apply Sto.head | apply Sto.tail | apply Patch.put | apply Patch.skip | apply Patch.done) rfl ?_)); intro WB HOn; clear HO; have HO := HOn; clear HOn))
      | (with_reducible refine own_at_load 29 ?_; refine wpList_own_elem rfl 29 _ rfl HO _ Try.underlying29 rfl oinfo_2 0 _ _ ws rfl inL_len (by decide) 0 _ HX.out rfl _ rfl ?_)
      | (go_at_call 34; refine (press_f _ _ _ _ _ _ _).mono ?_; rintro e wc ⟨rfl, hb⟩; rw [HP.out]; have HOn := HO.below hb; clear HO hb; have HO := HOn; clear HOn)
      | (go_at_call 17; refine (freeze_f _ _ _ _ _ _ _ _ _ _ _ _ _ _ _ _ _ _ _ _ _ _).mono ?_; rintro e wc ⟨rfl, hb⟩; have HOn := HO.below hb; clear HO hb; have HO := HOn; clear HOn))
      obtain ⟨n0, n1, n2, n3, hn0, hn1, hn2, hn3⟩ := HO.names4
      subst hn0 hn1 hn2 hn3
      refine wp_region_held_drew (S := (fun W => Blk W n0 [i6 d0, uw d1, .bool d2, i6 d3, .bool d4, .bool d5, i6 d6, uw d7, .bool d8, .bool false, .bool true, i6 d11, i6 d12, i6 d13, i6 d14, uw d15, i6 d16, .bool d17, .slice AA (n - 1) (c - 1)] ∧ Blk W n3 [i6 i0, i6 i1, i6 i2, i6 i3, uw i4, i6 i5])) (by kernel_rfl) ?_ (fun hHeld => ?_)
      · (try dsimp only); have HOn := HO.drew; clear HO; have HO := HOn; exact ⟨HO.blk 0 _ _ rfl, HO.blk 3 _ _ rfl⟩
      have HOn := HO.drew; clear HO; have HO := HOn; clear HOn
      refine wpAnyH_take (i := 0) (oi := { dst := some 32, op := Op.load 32 (Operand.tmp 1), type := 32, pos := "freeze.go:98", after := #[], guard := none }) (v := .agg (List.toArray [i6 d0, uw d1, .bool d2, i6 d3, .bool d4, .bool d5, i6 d6, uw d7, .bool d8, .bool false, .bool true, i6 d11, i6 d12, i6 d13, i6 d14, uw d15, i6 d16, .bool d17, .slice AA (n - 1) (c - 1)])) rfl (by kernel_rfl) (by kernel_rfl) (by kernel_rfl) (fun _ _ _ h => h) (yieldsIf_load_mid (by rfl) _ _ rfl n0 0 rfl [i6 d0, uw d1, .bool d2, i6 d3, .bool d4, .bool d5, i6 d6, uw d7, .bool d8, .bool false, .bool true, i6 d11, i6 d12, i6 d13, i6 d14, uw d15, i6 d16, .bool d17, .slice AA (n - 1) (c - 1)] _ (fun w hSw => blk_range hSw.1 0 _ rfl) Try.underlying32 rfl oinfo_0) (by assumption) ?_
      try simp only [Act.put, List.setIfInBounds_toArray, List.set_cons_zero, List.set_cons_succ]
      refine wpAnyH_take (i := 1) (oi := { dst := some 33, op := Op.load 29 (Operand.tmp 5), type := 29, pos := "freeze.go:98", after := #[{ on := 2, ground := Ground.gcOnly Departure.lateStores }], guard := none }) (v := .agg (List.toArray [i6 i0, i6 i1, i6 i2, i6 i3, uw i4, i6 i5])) rfl (by kernel_rfl) (by kernel_rfl) (by kernel_rfl) (fun _ _ _ h => h) (yieldsIf_load_mid (by rfl) _ _ rfl n3 0 rfl [i6 i0, i6 i1, i6 i2, i6 i3, uw i4, i6 i5] _ (fun w hSw => blk_range hSw.2 0 _ rfl) Try.underlying29 rfl oinfo_2) (by assumption) ?_
      try simp only [Act.put, List.setIfInBounds_toArray, List.set_cons_zero, List.set_cons_succ]
      refine wpAnyH_ready (rs := [2]) (by kernel_rfl) (by simp) ?_
      refine AllReadyH.cons (o := { dst := none, op := Op.store 32 (Operand.tmp 2) (Operand.tmp 32), type := 0, pos := "freeze.go:98", after := #[{ on := 0, ground := Ground.data }, { on := 0, ground := Ground.phase }, { on := 1, ground := Ground.textOnly Departure.lateStores }], guard := none }) rfl (fun K hK => ?_) AllReadyH.nil
      rw [if_pos (by rfl)]; refine wp_own_storeS 32 _ _ rfl HO 19 oinfo_0 1 _ 0 _ [i6 d0, uw d1, .bool d2, i6 d3, .bool d4, .bool d5, i6 d6, uw d7, .bool d8, .bool false, .bool true, i6 d11, i6 d12, i6 d13, i6 d14, uw d15, i6 d16, .bool d17, .slice AA (n - 1) (c - 1)] rfl rfl rfl rfl [i6 d0, uw d1, .bool d2, i6 d3, .bool d4, .bool d5, i6 d6, uw d7, .bool d8, .bool false, .bool true, i6 d11, i6 d12, i6 d13, i6 d14, uw d15, i6 d16, .bool d17, .slice AA (n - 1) (c - 1)] rfl (by simp) rfl ?_; intro WB HOn; (try simp only [List.set_cons_zero, List.set_cons_succ] at HOn); clear HO; have HO := HOn; clear HOn
      clear hHeld
      refine hK.out _ _ ?_ (fun hHeld => ?_)
      · (try dsimp only); exact ⟨HO.blk 0 _ _ rfl, HO.blk 3 _ _ rfl⟩
      clear hK K
      try simp only [Act.put, List.setIfInBounds_toArray, List.set_cons_zero, List.set_cons_succ]
      refine wpAnyH_ready (rs := [3]) (by kernel_rfl) (by simp) ?_
      refine AllReadyH.cons (o := { dst := none, op := Op.store 29 (Operand.tmp 3) (Operand.tmp 33), type := 0, pos := "freeze.go:98", after := #[{ on := 1, ground := Ground.data }, { on := 2, ground := Ground.chain }, { on := 0, ground := Ground.phase }, { on := 1, ground := Ground.phase }, { on := 2, ground := Ground.phase }], guard := none }) rfl (fun K hK => ?_) AllReadyH.nil
      rw [if_pos (by rfl)]; refine wp_own_storeS 29 _ _ rfl HO 6 oinfo_2 2 _ 0 _ [i6 i0, i6 i1, i6 i2, i6 i3, uw i4, i6 i5] rfl rfl rfl rfl [i6 i0, i6 i1, i6 i2, i6 i3, uw i4, i6 i5] rfl (by simp) rfl ?_; intro WB HOn; (try simp only [List.set_cons_zero, List.set_cons_succ] at HOn); clear HO; have HO := HOn; clear HOn
      clear hHeld
      refine hK.out _ _ ?_ (fun hHeld => ?_)
      · (try dsimp only); exact ⟨HO.blk 0 _ _ rfl, HO.blk 3 _ _ rfl⟩
      clear hK K
      try simp only [Act.put, List.setIfInBounds_toArray, List.set_cons_zero, List.set_cons_succ]
      refine wpAnyH_take (i := 4) (oi := { dst := some 4, op := Op.assign (Operand.const (Value.bool true)), type := 4, pos := "freeze.go:98", after := #[{ on := 3, ground := Ground.chain }, { on := 0, ground := Ground.phase }, { on := 1, ground := Ground.phase }, { on := 2, ground := Ground.phase }, { on := 3, ground := Ground.phase }], guard := none }) (v := ?_) rfl (by kernel_rfl) (by kernel_rfl) (by kernel_rfl) (fun _ _ _ h => h) (Or.inl ⟨by rfl, ?_⟩) (by assumption) ?_
      rotate_left
      · intro w hSw; (try dsimp only at hSw); go_simp; (try with_reducible rfl)
      try simp only [Act.put, List.setIfInBounds_toArray, List.set_cons_zero, List.set_cons_succ]
      refine wpAnyH_done (by kernel_rfl) ?_ _
      go_wp2_with fail
      exact own_ret_cct HO _ _ _ _ _ rfl 1 2 _ _ _ _ _ rfl rfl rfl rfl rfl _ _ Try.underlying32 rfl oinfo_0 Try.underlying29 rfl oinfo_2 rfl ⟨rfl, HO.q⟩
    · skip
      go_enter Try.func18, Try.ntmps18
      have HO := (Own.nil w).pushArg b o (cellsR inL ws) HB.out
      go_upto_region 7 with (first
      | (with_reducible ((first | (refine own_at_box 32 ?_; refine ob_0 HO _ rfl ?_) | (refine own_at_alloc 32 ?_; refine oa_0 HO ?_) | (refine own_at_box 27 ?_; refine ob_1 HO _ rfl ?_) | (refine own_at_alloc 27 ?_; refine oa_1 HO ?_) | (refine own_at_box 29 ?_; refine ob_2 HO _ rfl ?_) | (refine own_at_alloc 29 ?_; refine oa_2 HO ?_) | (refine own_at_box 4 ?_; refine sb_0 HO (.bool _) rfl rfl ?_) | (refine own_at_alloc 4 ?_; refine sa_0 HO ?_) | (refine own_at_box 3 ?_; refine sb_1 HO (.int .i64 _) rfl rfl ?_) | (refine own_at_alloc 3 ?_; refine sa_1 HO ?_) | (refine own_at_box 30 ?_; refine sb_2 HO (.slice _ _ _) rfl rfl ?_) | (refine own_at_alloc 30 ?_; refine sa_2 HO ?_)); intro nB WB HOn; (try simp only [List.cons_append, List.nil_append] at HOn); clear HO; have HO := HOn; clear HOn))
      | (with_reducible (first | (refine own_at_load 32 ?_; refine op_0 HO rfl _ _ _ _ rfl (by repeat first | apply Has.head | apply Has.tail) (by repeat first | apply Part.done | apply Part.take | apply Part.skip) ?_) | (refine own_at_load 27 ?_; refine op_1 HO rfl _ _ _ _ rfl (by repeat first | apply Has.head | apply Has.tail) (by repeat first | apply Part.done | apply Part.take | apply Part.skip) ?_) | (refine own_at_load 29 ?_; refine op_2 HO rfl _ _ _ _ rfl (by repeat first | apply Has.head | apply Has.tail) (by repeat first | apply Part.done | apply Part.take | apply Part.skip) ?_) | (refine own_at_load 4 ?_; refine sl_0 HO rfl _ _ _ _ rfl (by repeat first | apply Has.head | apply Has.tail) rfl ?_) | (refine own_at_load 3 ?_; refine sl_1 HO rfl _ _ _ _ rfl (by repeat first | apply Has.head | apply Has.tail) rfl ?_) | (refine own_at_load 30 ?_; refine sl_2 HO rfl _ _ _ _ rfl (by repeat first | apply Has.head | apply Has.tail) rfl ?_)))
      | (with_reducible ((first | (refine own_at_store 32 ?_; refine os_0 HO _ rfl rfl _ _ rfl (by repeat first | apply Sto.head | apply Sto.tail | apply Patch.put | apply Patch.skip | apply Patch.done) rfl ?_) | (refine own_at_store 27 ?_; refine os_1 HO _ rfl rfl _ _ rfl (by repeat first | apply Sto.head | apply Sto.tail | apply Patch.put | apply Patch.skip | apply Patch.done) rfl ?_) | (refine own_at_store 29 ?_; refine os_2 HO _ rfl rfl _ _ rfl (by repeat first | apply Sto.head | apply Sto.tail | apply Patch.put | apply Patch.skip | apply Patch.done) rfl ?_) | (refine own_at_store 4 ?_; refine st_0 HO (.bool _) rfl rfl _ _ rfl (by repeat first | apply Sto.head | apply Sto.tail | apply Patch.put | apply Patch.skip | apply Patch.done) rfl ?_) | (refine own_at_store 3 ?_; refine st_1 HO (.int .i64 _) rfl rfl _ _ rfl (by repeat first | apply Sto.head | apply Sto.tail | apply Patch.put | apply Patch.skip | apply Patch.done) rfl ?_) | (refine own_at_store 30 ?_; refine st_2 HO (.slice _ _ _) rfl rfl _ _ rfl (by repeat first | apply Sto.head | apply Sto.tail | apply Patch.put | apply Patch.skip | apply Patch.done) rfl ?_)); intro WB HOn; clear HO; have HO := HOn; clear HOn))
      | (with_reducible refine own_at_load 29 ?_; refine wpList_own_elem rfl 29 _ rfl HO _ Try.underlying29 rfl oinfo_2 0 _ _ ws rfl inL_len (by decide) 0 _ HX.out rfl _ rfl ?_)
      | (go_at_call 34; refine (press_f _ _ _ _ _ _ _).mono ?_; rintro e wc ⟨rfl, hb⟩; rw [HP.out]; have HOn := HO.below hb; clear HO hb; have HO := HOn; clear HOn)
      | (go_at_call 17; refine (freeze_f _ _ _ _ _ _ _ _ _ _ _ _ _ _ _ _ _ _ _ _ _ _).mono ?_; rintro e wc ⟨rfl, hb⟩; have HOn := HO.below hb; clear HO hb; have HO := HOn; clear HOn))
      obtain ⟨n0, n1, n2, n3, hn0, hn1, hn2, hn3⟩ := HO.names4
      subst hn0 hn1 hn2 hn3
      refine wp_region_held_drew (S := (fun W => Blk W n0 [i6 d0, uw d1, .bool d2, i6 d3, .bool d4, .bool d5, i6 d6, uw d7, .bool d8, .bool true, .bool false, i6 d11, i6 d12, i6 d13, i6 d14, uw d15, i6 d16, .bool d17, .slice AA (n - 1) (c - 1)] ∧ Blk W n3 [i6 i0, i6 i1, i6 i2, i6 i3, uw i4, i6 i5])) (by kernel_rfl) ?_ (fun hHeld => ?_)
      · (try dsimp only); have HOn := HO.drew; clear HO; have HO := HOn; exact ⟨HO.blk 0 _ _ rfl, HO.blk 3 _ _ rfl⟩
      have HOn := HO.drew; clear HO; have HO := HOn; clear HOn
      refine wpAnyH_take (i := 0) (oi := { dst := some 32, op := Op.load 32 (Operand.tmp 1), type := 32, pos := "freeze.go:98", after := #[], guard := none }) (v := .agg (List.toArray [i6 d0, uw d1, .bool d2, i6 d3, .bool d4, .bool d5, i6 d6, uw d7, .bool d8, .bool true, .bool false, i6 d11, i6 d12, i6 d13, i6 d14, uw d15, i6 d16, .bool d17, .slice AA (n - 1) (c - 1)])) rfl (by kernel_rfl) (by kernel_rfl) (by kernel_rfl) (fun _ _ _ h => h) (yieldsIf_load_mid (by rfl) _ _ rfl n0 0 rfl [i6 d0, uw d1, .bool d2, i6 d3, .bool d4, .bool d5, i6 d6, uw d7, .bool d8, .bool true, .bool false, i6 d11, i6 d12, i6 d13, i6 d14, uw d15, i6 d16, .bool d17, .slice AA (n - 1) (c - 1)] _ (fun w hSw => blk_range hSw.1 0 _ rfl) Try.underlying32 rfl oinfo_0) (by assumption) ?_
      try simp only [Act.put, List.setIfInBounds_toArray, List.set_cons_zero, List.set_cons_succ]
      refine wpAnyH_take (i := 1) (oi := { dst := some 33, op := Op.load 29 (Operand.tmp 5), type := 29, pos := "freeze.go:98", after := #[{ on := 2, ground := Ground.gcOnly Departure.lateStores }], guard := none }) (v := .agg (List.toArray [i6 i0, i6 i1, i6 i2, i6 i3, uw i4, i6 i5])) rfl (by kernel_rfl) (by kernel_rfl) (by kernel_rfl) (fun _ _ _ h => h) (yieldsIf_load_mid (by rfl) _ _ rfl n3 0 rfl [i6 i0, i6 i1, i6 i2, i6 i3, uw i4, i6 i5] _ (fun w hSw => blk_range hSw.2 0 _ rfl) Try.underlying29 rfl oinfo_2) (by assumption) ?_
      try simp only [Act.put, List.setIfInBounds_toArray, List.set_cons_zero, List.set_cons_succ]
      refine wpAnyH_ready (rs := [2]) (by kernel_rfl) (by simp) ?_
      refine AllReadyH.cons (o := { dst := none, op := Op.store 32 (Operand.tmp 2) (Operand.tmp 32), type := 0, pos := "freeze.go:98", after := #[{ on := 0, ground := Ground.data }, { on := 0, ground := Ground.phase }, { on := 1, ground := Ground.textOnly Departure.lateStores }], guard := none }) rfl (fun K hK => ?_) AllReadyH.nil
      rw [if_pos (by rfl)]; refine wp_own_storeS 32 _ _ rfl HO 19 oinfo_0 1 _ 0 _ [i6 d0, uw d1, .bool d2, i6 d3, .bool d4, .bool d5, i6 d6, uw d7, .bool d8, .bool true, .bool false, i6 d11, i6 d12, i6 d13, i6 d14, uw d15, i6 d16, .bool d17, .slice AA (n - 1) (c - 1)] rfl rfl rfl rfl [i6 d0, uw d1, .bool d2, i6 d3, .bool d4, .bool d5, i6 d6, uw d7, .bool d8, .bool true, .bool false, i6 d11, i6 d12, i6 d13, i6 d14, uw d15, i6 d16, .bool d17, .slice AA (n - 1) (c - 1)] rfl (by simp) rfl ?_; intro WB HOn; (try simp only [List.set_cons_zero, List.set_cons_succ] at HOn); clear HO; have HO := HOn; clear HOn
      clear hHeld
      refine hK.out _ _ ?_ (fun hHeld => ?_)
      · (try dsimp only); exact ⟨HO.blk 0 _ _ rfl, HO.blk 3 _ _ rfl⟩
      clear hK K
      try simp only [Act.put, List.setIfInBounds_toArray, List.set_cons_zero, List.set_cons_succ]
      refine wpAnyH_ready (rs := [3]) (by kernel_rfl) (by simp) ?_
      refine AllReadyH.cons (o := { dst := none, op := Op.store 29 (Operand.tmp 3) (Operand.tmp 33), type := 0, pos := "freeze.go:98", after := #[{ on := 1, ground := Ground.data }, { on := 2, ground := Ground.chain }, { on := 0, ground := Ground.phase }, { on := 1, ground := Ground.phase }, { on := 2, ground := Ground.phase }], guard := none }) rfl (fun K hK => ?_) AllReadyH.nil
      rw [if_pos (by rfl)]; refine wp_own_storeS 29 _ _ rfl HO 6 oinfo_2 2 _ 0 _ [i6 i0, i6 i1, i6 i2, i6 i3, uw i4, i6 i5] rfl rfl rfl rfl [i6 i0, i6 i1, i6 i2, i6 i3, uw i4, i6 i5] rfl (by simp) rfl ?_; intro WB HOn; (try simp only [List.set_cons_zero, List.set_cons_succ] at HOn); clear HO; have HO := HOn; clear HOn
      clear hHeld
      refine hK.out _ _ ?_ (fun hHeld => ?_)
      · (try dsimp only); exact ⟨HO.blk 0 _ _ rfl, HO.blk 3 _ _ rfl⟩
      clear hK K
      try simp only [Act.put, List.setIfInBounds_toArray, List.set_cons_zero, List.set_cons_succ]
      refine wpAnyH_take (i := 4) (oi := { dst := some 4, op := Op.assign (Operand.const (Value.bool true)), type := 4, pos := "freeze.go:98", after := #[{ on := 3, ground := Ground.chain }, { on := 0, ground := Ground.phase }, { on := 1, ground := Ground.phase }, { on := 2, ground := Ground.phase }, { on := 3, ground := Ground.phase }], guard := none }) (v := ?_) rfl (by kernel_rfl) (by kernel_rfl) (by kernel_rfl) (fun _ _ _ h => h) (Or.inl ⟨by rfl, ?_⟩) (by assumption) ?_
      rotate_left
      · intro w hSw; (try dsimp only at hSw); go_simp; (try with_reducible rfl)
      try simp only [Act.put, List.setIfInBounds_toArray, List.set_cons_zero, List.set_cons_succ]
      refine wpAnyH_done (by kernel_rfl) ?_ _
      go_wp2_with fail
      exact own_ret_cct HO _ _ _ _ _ rfl 1 2 _ _ _ _ _ rfl rfl rfl rfl rfl _ _ Try.underlying32 rfl oinfo_0 Try.underlying29 rfl oinfo_2 rfl ⟨rfl, HO.q⟩
end Go.Proofs.Ytgcedookbblibaa
