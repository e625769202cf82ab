/- Layer 39: one more input that waits. -/
import Derived.Test.YtgcedookbblibaaFz4
namespace Go.Proofs.Ytgcedookbblibaa
open Go Go.RowKit
set_option linter.unusedSimpArgs false
set_option linter.unusedVariables false
theorem lit_in (i0 i1 i2 i3 i4 i5 : Int) : ∀ W, (Instr.buildSlice 30 1 #[(0, .agg (List.toArray [i6 i0, i6 i1, i6 i2, i6 i3, uw i4, i6 i5]))]).run Try.prog W = .ok (.slice (some ⟨W.heap.size, 0, none⟩) 1 1) (W.alloc (.cells (List.toArray [i6 i0, i6 i1, i6 i2, i6 i3, uw i4, i6 i5]) 29)) := by
  intro W
  obtain ⟨i0', hi, hz0, hz1, hz2⟩ := row_info clone_info
  simp [Instr.buildSlice, run_underlying clone_und, sizeOf, typeInfo, zeroValue, hi, hz0, hz1, Instr.fill, Value.cells, newRow, go_sem]
set_option maxRecDepth 100000 in
set_option maxHeartbeats 16000000 in
theorem feed_full (d0 d1 : Int) (d2 : Bool) (d3 : Int) (d4 d5 : Bool) (d6 d7 : Int) (d8 d9 d10 : Bool) (d11 d12 d13 d14 d15 d16 : Int) (d17 : Bool) (a : Option Addr) (c : Nat) (ws : List In) (b o : Nat) (i0 i1 i2 i3 i4 i5 : Int) (w : World) (hl : 256 ≤ ws.length) (hl2 : ws.length ≤ 1000) :
    Calls Try.prog 9 #[.agg #[i6 d0, uw d1, .bool d2, i6 d3, .bool d4, .bool d5, i6 d6, uw d7, .bool d8, .bool d9, .bool d10, i6 d11, i6 d12, i6 d13, i6 d14, uw d15, i6 d16, .bool d17, .slice a ws.length c], .agg #[i6 i0, i6 i1, i6 i2, i6 i3, uw i4, i6 i5]] w fun e w' => e = .returned (.tuple #[.agg #[i6 d0, uw d1, .bool d2, i6 d3, .bool d4, .bool d5, i6 d6, uw d7, .bool d8, .bool d9, .bool d10, i6 d11, i6 d12, i6 d13, i6 d14, uw d15, i6 d16, .bool d17, .slice a ws.length c], i6 12]) ∧ Below w.heap.size w w' := by
  obtain ⟨n, hn⟩ : ∃ n, ws.length = n := ⟨_, rfl⟩
  rw [hn] at hl hl2 ⊢
  have hn2 : (256 : Int) ≤ (n : Int) := by omega
  clear hn
  go_enter Try.func9, Try.ntmps9
  have HO := Own.nil w
  go_wp2_with (first
      | (with_reducible ((first | (refine own_at_box 32 ?_; refine ob_0 HO _ rfl ?_) | (refine own_at_alloc 32 ?_; refine oa_0 HO ?_) | (refine own_at_box 27 ?_; refine ob_1 HO _ rfl ?_) | (refine own_at_alloc 27 ?_; refine oa_1 HO ?_) | (refine own_at_box 29 ?_; refine ob_2 HO _ rfl ?_) | (refine own_at_alloc 29 ?_; refine oa_2 HO ?_) | (refine own_at_box 4 ?_; refine sb_0 HO (.bool _) rfl rfl ?_) | (refine own_at_alloc 4 ?_; refine sa_0 HO ?_) | (refine own_at_box 3 ?_; refine sb_1 HO (.int .i64 _) rfl rfl ?_) | (refine own_at_alloc 3 ?_; refine sa_1 HO ?_) | (refine own_at_box 30 ?_; refine sb_2 HO (.slice _ _ _) rfl rfl ?_) | (refine own_at_alloc 30 ?_; refine sa_2 HO ?_)); intro nB WB HOn; (try simp only [List.cons_append, List.nil_append] at HOn); clear HO; have HO := HOn; clear HOn))
      | (with_reducible (first | (refine own_at_load 32 ?_; refine op_0 HO rfl _ _ _ _ rfl (by repeat first | apply Has.head | apply Has.tail) (by repeat first | apply Part.done | apply Part.take | apply Part.skip) ?_) | (refine own_at_load 27 ?_; refine op_1 HO rfl _ _ _ _ rfl (by repeat first | apply Has.head | apply Has.tail) (by repeat first | apply Part.done | apply Part.take | apply Part.skip) ?_) | (refine own_at_load 29 ?_; refine op_2 HO rfl _ _ _ _ rfl (by repeat first | apply Has.head | apply Has.tail) (by repeat first | apply Part.done | apply Part.take | apply Part.skip) ?_) | (refine own_at_load 4 ?_; refine sl_0 HO rfl _ _ _ _ rfl (by repeat first | apply Has.head | apply Has.tail) rfl ?_) | (refine own_at_load 3 ?_; refine sl_1 HO rfl _ _ _ _ rfl (by repeat first | apply Has.head | apply Has.tail) rfl ?_) | (refine own_at_load 30 ?_; refine sl_2 HO rfl _ _ _ _ rfl (by repeat first | apply Has.head | apply Has.tail) rfl ?_)))
      | (with_reducible ((first | (refine own_at_store 32 ?_; refine os_0 HO _ rfl rfl _ _ rfl (by repeat first | apply Sto.head | apply Sto.tail | apply Patch.put | apply Patch.skip | apply Patch.done) rfl ?_) | (refine own_at_store 27 ?_; refine os_1 HO _ rfl rfl _ _ rfl (by repeat first | apply Sto.head | apply Sto.tail | apply Patch.put | apply Patch.skip | apply Patch.done) rfl ?_) | (refine own_at_store 29 ?_; refine os_2 HO _ rfl rfl _ _ rfl (by repeat first | apply Sto.head | apply Sto.tail | apply Patch.put | apply Patch.skip | apply Patch.done) rfl ?_) | (refine own_at_store 4 ?_; refine st_0 HO (.bool _) rfl rfl _ _ rfl (by repeat first | apply Sto.head | apply Sto.tail | apply Patch.put | apply Patch.skip | apply Patch.done) rfl ?_) | (refine own_at_store 3 ?_; refine st_1 HO (.int .i64 _) rfl rfl _ _ rfl (by repeat first | apply Sto.head | apply Sto.tail | apply Patch.put | apply Patch.skip | apply Patch.done) rfl ?_) | (refine own_at_store 30 ?_; refine st_2 HO (.slice _ _ _) rfl rfl _ _ rfl (by repeat first | apply Sto.head | apply Sto.tail | apply Patch.put | apply Patch.skip | apply Patch.done) rfl ?_)); intro WB HOn; clear HO; have HO := HOn; clear HOn)))
  exact own_ret_ct HO _ _ _ rfl 2 _ _ _ rfl rfl rfl _ Try.underlying32 rfl oinfo_0 rfl ⟨rfl, HO.q⟩
theorem cellsR_snoc_in (ws : List In) (i0 i1 i2 i3 i4 i5 : Int) : cellsR inL (ws ++ [⟨i0, i1, i2, i3, i4, i5⟩]) = cellsR inL ws ++ [i6 i0, i6 i1, i6 i2, i6 i3, uw i4, i6 i5] := by rw [cellsR_snoc]
set_option maxRecDepth 100000 in
set_option maxHeartbeats 16000000 in
theorem feed_ok (d0 d1 : Int) (d2 : Bool) (d3 : Int) (d4 d5 : Bool) (d6 d7 : Int) (d8 d9 d10 : Bool) (d11 d12 d13 d14 d15 d16 : Int) (d17 : Bool) (a : Option Addr) (c : Nat) (ws : List In) (b o : Nat) (i0 i1 i2 i3 i4 i5 : Int) (w : World) (hc : ws.length ≤ c) (hm : c ≤ maxLen) (hA : 0 < ws.length → a = some ⟨b, o, none⟩) (hB : cellsR inL ws ≠ [] → b < w.heap.size ∧ w.rangeAt b o (cellsR inL ws)) (hl : ws.length < 256) :
    Calls Try.prog 9 #[.agg #[i6 d0, uw d1, .bool d2, i6 d3, .bool d4, .bool d5, i6 d6, uw d7, .bool d8, .bool d9, .bool d10, i6 d11, i6 d12, i6 d13, i6 d14, uw d15, i6 d16, .bool d17, .slice a ws.length c], .agg #[i6 i0, i6 i1, i6 i2, i6 i3, uw i4, i6 i5]] w fun e w' => ∃ g cap, e = .returned (.tuple #[.agg #[i6 d0, uw d1, .bool d2, i6 d3, .bool d4, .bool d5, i6 d6, uw d7, .bool d8, .bool d9, .bool d10, i6 d11, i6 d12, i6 d13, i6 d14, uw d15, i6 d16, .bool d17, .slice (some ⟨g, 0, none⟩) (ws.length + 1) cap], i6 0]) ∧ ws.length + 1 ≤ cap ∧ cap ≤ maxLen ∧ (w.heap.size ≤ g ∧ g < w'.heap.size ∧ w'.rangeAt g 0 (cellsR inL (ws ++ [⟨i0, i1, i2, i3, i4, i5⟩]))) ∧ Below w.heap.size w w' := by
  obtain ⟨i0', hi, hz0, hz1, hz2⟩ := row_info clone_info
  have HA := Lib.hid hA
  have HC := Lib.hid hc
  have HM := Lib.hid hm
  have HB := Lib.hid hB
  have HL : Hid (ws.length ≤ 100000) := Lib.hid (by omega)
  obtain ⟨n, hn⟩ : ∃ n, ws.length = n := ⟨_, rfl⟩
  have HN := Lib.hid hn
  rw [hn] at hl ⊢
  have hn2 : ¬ (256 : Int) ≤ (n : Int) := by omega
  clear hn hA hc hm hB
  go_enter Try.func9, Try.ntmps9
  have HO := (Own.nil w).pushArg b o (cellsR inL ws) HB.out
  go_upto_region 3 with (first
      | (with_reducible ((first | (refine own_at_box 32 ?_; refine ob_0 HO _ rfl ?_) | (refine own_at_alloc 32 ?_; refine oa_0 HO ?_) | (refine own_at_box 27 ?_; refine ob_1 HO _ rfl ?_) | (refine own_at_alloc 27 ?_; refine oa_1 HO ?_) | (refine own_at_box 29 ?_; refine ob_2 HO _ rfl ?_) | (refine own_at_alloc 29 ?_; refine oa_2 HO ?_) | (refine own_at_box 4 ?_; refine sb_0 HO (.bool _) rfl rfl ?_) | (refine own_at_alloc 4 ?_; refine sa_0 HO ?_) | (refine own_at_box 3 ?_; refine sb_1 HO (.int .i64 _) rfl rfl ?_) | (refine own_at_alloc 3 ?_; refine sa_1 HO ?_) | (refine own_at_box 30 ?_; refine sb_2 HO (.slice _ _ _) rfl rfl ?_) | (refine own_at_alloc 30 ?_; refine sa_2 HO ?_)); intro nB WB HOn; (try simp only [List.cons_append, List.nil_append] at HOn); clear HO; have HO := HOn; clear HOn))
      | (with_reducible (first | (refine own_at_load 32 ?_; refine op_0 HO rfl _ _ _ _ rfl (by repeat first | apply Has.head | apply Has.tail) (by repeat first | apply Part.done | apply Part.take | apply Part.skip) ?_) | (refine own_at_load 27 ?_; refine op_1 HO rfl _ _ _ _ rfl (by repeat first | apply Has.head | apply Has.tail) (by repeat first | apply Part.done | apply Part.take | apply Part.skip) ?_) | (refine own_at_load 29 ?_; refine op_2 HO rfl _ _ _ _ rfl (by repeat first | apply Has.head | apply Has.tail) (by repeat first | apply Part.done | apply Part.take | apply Part.skip) ?_) | (refine own_at_load 4 ?_; refine sl_0 HO rfl _ _ _ _ rfl (by repeat first | apply Has.head | apply Has.tail) rfl ?_) | (refine own_at_load 3 ?_; refine sl_1 HO rfl _ _ _ _ rfl (by repeat first | apply Has.head | apply Has.tail) rfl ?_) | (refine own_at_load 30 ?_; refine sl_2 HO rfl _ _ _ _ rfl (by repeat first | apply Has.head | apply Has.tail) rfl ?_)))
      | (with_reducible ((first | (refine own_at_store 32 ?_; refine os_0 HO _ rfl rfl _ _ rfl (by repeat first | apply Sto.head | apply Sto.tail | apply Patch.put | apply Patch.skip | apply Patch.done) rfl ?_) | (refine own_at_store 27 ?_; refine os_1 HO _ rfl rfl _ _ rfl (by repeat first | apply Sto.head | apply Sto.tail | apply Patch.put | apply Patch.skip | apply Patch.done) rfl ?_) | (refine own_at_store 29 ?_; refine os_2 HO _ rfl rfl _ _ rfl (by repeat first | apply Sto.head | apply Sto.tail | apply Patch.put | apply Patch.skip | apply Patch.done) rfl ?_) | (refine own_at_store 4 ?_; refine st_0 HO (.bool _) rfl rfl _ _ rfl (by repeat first | apply Sto.head | apply Sto.tail | apply Patch.put | apply Patch.skip | apply Patch.done) rfl ?_) | (refine own_at_store 3 ?_; refine st_1 HO (.int .i64 _) rfl rfl _ _ rfl (by repeat first | apply Sto.head | apply Sto.tail | apply Patch.put | apply Patch.skip | apply Patch.done) rfl ?_) | (refine own_at_store 30 ?_; refine st_2 HO (.slice _ _ _) rfl rfl _ _ rfl (by repeat first | apply Sto.head | apply Sto.tail | apply Patch.put | apply Patch.skip | apply Patch.done) rfl ?_)); intro WB HOn; clear HO; have HO := HOn; clear HOn)))
  obtain ⟨n0, n1, n2, hn0, hn1, hn2⟩ := HO.names3
  subst hn0 hn1 hn2
  refine wp_region_held_drew (S := (fun W => Blk W n1 [i6 i0, i6 i1, i6 i2, i6 i3, uw i4, i6 i5] ∧ True)) (by kernel_rfl) ?_ (fun hHeld => ?_)
  · (try dsimp only); have HOn := HO.drew; clear HO; have HO := HOn; exact ⟨HO.blk 1 _ _ rfl, trivial⟩
  have HOn := HO.drew; clear HO; have HO := HOn; clear HOn
  refine wpAnyH_take (i := 0) (oi := { dst := some 11, op := Op.fieldAddr 32 (Operand.tmp 2) 6, type := 0, pos := "freeze.go:82", after := #[], guard := none }) (v := ?_) rfl (by kernel_rfl) (by kernel_rfl) (by kernel_rfl) (fun _ _ _ h => h) (Or.inl ⟨by rfl, ?_⟩) (by assumption) ?_
  rotate_left
  · intro w hSw; (try dsimp only at hSw); go_simp; (try with_reducible rfl)
  try simp only [Act.put, List.setIfInBounds_toArray, List.set_cons_zero, List.set_cons_succ]
  refine wpAnyH_take (i := 3) (oi := { dst := some 14, op := Op.load 29 (Operand.tmp 3), type := 29, pos := "freeze.go:82", after := #[], guard := none }) (v := .agg (List.toArray [i6 i0, i6 i1, i6 i2, i6 i3, uw i4, i6 i5])) rfl (by kernel_rfl) (by kernel_rfl) (by kernel_rfl) (fun _ _ _ h => h) (yieldsIf_load_mid (by rfl) _ _ rfl n1 0 rfl [i6 i0, i6 i1, i6 i2, i6 i3, uw i4, i6 i5] _ (fun w hSw => blk_range hSw.1 0 _ rfl) Try.underlying29 rfl oinfo_2) (by assumption) ?_
  try simp only [Act.put, List.setIfInBounds_toArray, List.set_cons_zero, List.set_cons_succ]
  refine wpAnyH_ready (rs := [1, 4]) (by kernel_rfl) (by simp) ?_
  refine AllReadyH.cons (o := { dst := some 12, op := Op.load 30 (Operand.tmp 11), type := 30, pos := "freeze.go:82", after := #[{ on := 0, ground := Ground.data }], guard := none }) rfl (fun K hK => ?_) (AllReadyH.cons (o := { dst := some 15, op := Op.buildSlice 30 1 #[(0, Operand.tmp 14)], type := 30, pos := "freeze.go:82", after := #[{ on := 3, ground := Ground.data }], guard := none }) rfl (fun K hK => ?_) AllReadyH.nil)
  · rw [if_pos (by rfl)]; refine wp_own_load1 30 _ rfl HO 0 _ 18 _ _ _ rfl rfl rfl Try.underlying30 rfl ?_
    clear hHeld
    refine hK.out _ _ ?_ (fun hHeld => ?_)
    · (try dsimp only); exact ⟨HO.blk 1 _ _ rfl, trivial⟩
    clear hK K
    try simp only [Act.put, List.setIfInBounds_toArray, List.set_cons_zero, List.set_cons_succ]
    refine wpAnyH_ready (rs := [2, 4]) (by kernel_rfl) (by simp) ?_
    refine AllReadyH.cons (o := { dst := some 13, op := Op.call { callee := Callee.value (Operand.func 23), args := #[Operand.tmp 12], argTypes := #[30] }, type := 30, pos := "freeze.go:82", after := #[{ on := 1, ground := Ground.data }], guard := none }) rfl (fun K hK => ?_) (AllReadyH.cons (o := { dst := some 15, op := Op.buildSlice 30 1 #[(0, Operand.tmp 14)], type := 30, pos := "freeze.go:82", after := #[{ on := 3, ground := Ground.data }], guard := none }) rfl (fun K hK => ?_) AllReadyH.nil)
    · have HOc := HO.takeL 3; simp only [List.take_succ_cons, List.take_zero] at HOc; have z0 := (HO.blk 0 _ _ rfl).lt; have z1 := (HO.blk 1 _ _ rfl).lt; have z2 := (HO.blk 2 _ _ rfl).lt; (try have hlit : nlit < _ := (HO.blk 3 _ _ rfl).lt); go_simp; go_at_call 23; refine (clone_row _ ws b o _ ⟨a, c, by rw [HN.out], HC.out, HM.out, HA.out⟩ (fun hne => ⟨(HO.rng 0 _ _ _ rfl hne).1, (HO.rng 0 _ _ _ rfl hne).2.1⟩) HL.out).mono ?_; rintro e wc ⟨v5, rfl, ho5, hb⟩; have HOn := HO.below hb; clear HO; have HO := HOn; clear HOn; rw [HN.out] at ho5; have OW := Lib.hid ho5; have hgb : ∀ q, v5.ownBlock = some q → _ ≤ q ∧ q < wc.heap.size := fun q hq => ho5.lt q hq; have HGB := Lib.hid hgb; have hqc := HOc.q.size; have hqs := hb.size; clear ho5 hgb hb
      clear hHeld
      refine hK.out _ _ ?_ (fun hHeld => ?_)
      · (try dsimp only); exact ⟨HO.blk 1 _ _ rfl, trivial⟩
      clear hK K
      try simp only [Act.put, List.setIfInBounds_toArray, List.set_cons_zero, List.set_cons_succ]
      refine wpAnyH_ready (rs := [4]) (by kernel_rfl) (by simp) ?_
      refine AllReadyH.cons (o := { dst := some 15, op := Op.buildSlice 30 1 #[(0, Operand.tmp 14)], type := 30, pos := "freeze.go:82", after := #[{ on := 3, ground := Ground.data }], guard := none }) rfl (fun K hK => ?_) AllReadyH.nil
      rw [if_pos (by rfl)]; refine wp_own_lit 30 _ rfl HO 29 _ rfl (lit_in _ _ _ _ _ _) ?_; intro nlit WB hnl hbl HOn; (try simp only [List.cons_append, List.nil_append] at HOn); clear HO; have HO := HOn; clear HOn; have hbs := hbl.size; (try (have OW2 := Lib.hid (row_below OW.out hbl); clear OW; have OW := OW2; clear OW2; have hlit2 : wc.heap.size ≤ nlit := (by first | exact hnl | exact Nat.le_trans (by simp) hnl))); clear hbl
      clear hHeld
      refine hK.out _ _ ?_ (fun hHeld => ?_)
      · (try dsimp only); exact ⟨HO.blk 1 _ _ rfl, trivial⟩
      clear hK K
      try simp only [Act.put, List.setIfInBounds_toArray, List.set_cons_zero, List.set_cons_succ]
      refine wpAnyH_ready (rs := [5]) (by kernel_rfl) (by simp) ?_
      refine AllReadyH.cons (o := { dst := some 16, op := Op.call { callee := Callee.builtin Builtin.append, args := #[Operand.tmp 13, Operand.tmp 15], argTypes := #[30, 30] }, type := 30, pos := "freeze.go:82", after := #[{ on := 2, ground := Ground.data }, { on := 4, ground := Ground.data }, { on := 2, ground := Ground.chain }], guard := none }) rfl (fun K hK => ?_) AllReadyH.nil
      rw [if_pos (by rfl)]; refine wp_own_append _ _ 30 rfl _ 29 i0' _ 6 48 clone_und hi hz0 hz1 hz2 rfl (by decide) HO v5 _ _ rfl OW.out 3 _ _ _ rfl rfl rfl rfl ?_ ?_ ?_ ?_ ?_ ?_ ?_
      · have := HL.out; unfold maxLen; omega
      · have := HL.out; omega
      · first | omega | exact Nat.le_trans hqs hq2.size | (have := HO.q.size; omega)
      · first | omega | exact hqc
      · intro q hq i c' vs hi'; have hg := HGB.out q hq; rcases i with _ | _ | _ | _ | i <;> simp at hi' <;> (obtain ⟨rfl, rfl⟩ := hi'; omega)
      · intro q hq k b' o' cs hk hne e; have hg := HGB.out q hq; rcases k with _ | k <;> simp at hk; obtain ⟨rfl, rfl, rfl⟩ := hk; have := (HB.out hne).1; omega
      intro v6 w6 ho6 HOn; clear HO; have HO := HOn.takeL 3; simp only [List.take_succ_cons, List.take_zero] at HO; clear HOn; rw [← cellsR_snoc_in] at ho6; obtain ⟨g6, ⟨A6, cap6, rfl, hnc6, hcm6, hA6⟩, hr6⟩ := own_row ho6 (by decide); have hr6 := hr6 (cellsR_some inL_len (by decide) (by simp)); obtain rfl : A6 = some ⟨g6, 0, none⟩ := hA6 (by omega); have HOn := HO.push g6 0 (cellsR inL (ws ++ [_])) (fun _ => ⟨hr6.2.1, hr6.2.2, fun i c' vs hi' => by rcases i with _ | _ | _ | i <;> simp at hi' <;> (obtain ⟨rfl, rfl⟩ := hi'; have := hr6.1; omega)⟩); clear HO; have HO := HOn; clear HOn
      clear hHeld
      refine hK.out _ _ ?_ (fun hHeld => ?_)
      · (try dsimp only); exact ⟨HO.blk 1 _ _ rfl, trivial⟩
      clear hK K
      try simp only [Act.put, List.setIfInBounds_toArray, List.set_cons_zero, List.set_cons_succ]
      refine wpAnyH_take (i := 6) (oi := { dst := some 17, op := Op.fieldAddr 32 (Operand.tmp 2) 6, type := 0, pos := "freeze.go:82", after := #[{ on := 0, ground := Ground.phase }, { on := 1, ground := Ground.phase }, { on := 2, ground := Ground.phase }, { on := 3, ground := Ground.phase }, { on := 4, ground := Ground.phase }, { on := 5, ground := Ground.phase }], guard := none }) (v := ?_) rfl (by kernel_rfl) (by kernel_rfl) (by kernel_rfl) (fun _ _ _ h => h) (Or.inl ⟨by rfl, ?_⟩) (by assumption) ?_
      rotate_left
      · intro w hSw; (try dsimp only at hSw); go_simp; (try with_reducible rfl)
      try simp only [Act.put, List.setIfInBounds_toArray, List.set_cons_zero, List.set_cons_succ]
      refine wpAnyH_ready (rs := [7]) (by kernel_rfl) (by simp) ?_
      refine AllReadyH.cons (o := { dst := none, op := Op.store 30 (Operand.tmp 17) (Operand.tmp 16), type := 0, pos := "freeze.go:82", after := #[{ on := 6, ground := Ground.data }, { on := 5, ground := Ground.data }, { on := 5, ground := Ground.chain }, { on := 0, ground := Ground.phase }, { on := 1, ground := Ground.phase }, { on := 2, ground := Ground.phase }, { on := 3, ground := Ground.phase }, { on := 4, ground := Ground.phase }, { on := 5, ground := Ground.phase }], guard := none }) rfl (fun K hK => ?_) AllReadyH.nil
      rw [if_pos (by rfl)]; refine wp_own_store1 30 _ _ rfl HO oinfos_2 0 _ 18 _ (.slice (some ⟨g6, 0, none⟩) (n + 1) cap6) rfl rfl rfl rfl [i6 d0, uw d1, .bool d2, i6 d3, .bool d4, .bool d5, i6 d6, uw d7, .bool d8, .bool d9, .bool d10, i6 d11, i6 d12, i6 d13, i6 d14, uw d15, i6 d16, .bool d17, .slice (some ⟨g6, 0, none⟩) (n + 1) cap6] rfl (by simp) rfl ?_; intro WB HOn; (try simp only [List.set_cons_zero, List.set_cons_succ] at HOn); clear HO; have HO := HOn; clear HOn
      clear hHeld
      refine hK.out _ _ ?_ (fun hHeld => ?_)
      · (try dsimp only); exact ⟨HO.blk 1 _ _ rfl, trivial⟩
      clear hK K
      try simp only [Act.put, List.setIfInBounds_toArray, List.set_cons_zero, List.set_cons_succ]
      refine wpAnyH_done (by kernel_rfl) ?_ _
      go_wp2_with (first
      | (with_reducible refine own_at_load 32 ?_; refine wpList_own_whole rfl 32 _ rfl HO 19 _ Try.underlying32 rfl oinfo_0 0 _ _ rfl rfl rfl ?_)
      | (with_reducible refine own_at_store 32 ?_; refine wpList_own_putAllS rfl 32 _ _ rfl HO 19 oinfo_0 2 _ _ _ rfl rfl rfl rfl rfl rfl ?_; intro WB HOn; (try simp only [List.set_cons_zero, List.set_cons_succ] at HOn); clear HO; have HO := HOn; clear HOn))
      exact own_ret_ct HO _ _ _ rfl 2 _ _ _ rfl rfl rfl _ Try.underlying32 rfl oinfo_0 rfl ⟨g6, cap6, rfl, hnc6, hcm6, ⟨Nat.le_trans hqc hr6.1, (HO.rng 0 _ _ _ rfl (cellsR_some inL_len (by decide) (by simp))).1, (HO.rng 0 _ _ _ rfl (cellsR_some inL_len (by decide) (by simp))).2.1⟩, HO.q⟩
    · rw [if_pos (by rfl)]; refine wp_own_lit 30 _ rfl HO 29 _ rfl (lit_in _ _ _ _ _ _) ?_; intro nlit WB hnl hbl HOn; (try simp only [List.cons_append, List.nil_append] at HOn); clear HO; have HO := HOn; clear HOn; have hbs := hbl.size; (try (have OW2 := Lib.hid (row_below OW.out hbl); clear OW; have OW := OW2; clear OW2; have hlit2 : wc.heap.size ≤ nlit := (by first | exact hnl | exact Nat.le_trans (by simp) hnl))); clear hbl
      clear hHeld
      refine hK.out _ _ ?_ (fun hHeld => ?_)
      · (try dsimp only); exact ⟨HO.blk 1 _ _ rfl, trivial⟩
      clear hK K
      try simp only [Act.put, List.setIfInBounds_toArray, List.set_cons_zero, List.set_cons_succ]
      refine wpAnyH_ready (rs := [2]) (by kernel_rfl) (by simp) ?_
      refine AllReadyH.cons (o := { dst := some 13, op := Op.call { callee := Callee.value (Operand.func 23), args := #[Operand.tmp 12], argTypes := #[30] }, type := 30, pos := "freeze.go:82", after := #[{ on := 1, ground := Ground.data }], guard := none }) rfl (fun K hK => ?_) AllReadyH.nil
      have HOc := HO.takeL 3; simp only [List.take_succ_cons, List.take_zero] at HOc; have z0 := (HO.blk 0 _ _ rfl).lt; have z1 := (HO.blk 1 _ _ rfl).lt; have z2 := (HO.blk 2 _ _ rfl).lt; (try have hlit : nlit < _ := (HO.blk 3 _ _ rfl).lt); go_simp; go_at_call 23; refine (clone_row _ ws b o _ ⟨a, c, by rw [HN.out], HC.out, HM.out, HA.out⟩ (fun hne => ⟨(HO.rng 0 _ _ _ rfl hne).1, (HO.rng 0 _ _ _ rfl hne).2.1⟩) HL.out).mono ?_; rintro e wc ⟨v5, rfl, ho5, hb⟩; have HOn := HO.below hb; clear HO; have HO := HOn; clear HOn; rw [HN.out] at ho5; have OW := Lib.hid ho5; have hgb : ∀ q, v5.ownBlock = some q → _ ≤ q ∧ q < wc.heap.size := fun q hq => ho5.lt q hq; have HGB := Lib.hid hgb; have hqc := HOc.q.size; have hqs := hb.size; clear ho5 hgb hb
      clear hHeld
      refine hK.out _ _ ?_ (fun hHeld => ?_)
      · (try dsimp only); exact ⟨HO.blk 1 _ _ rfl, trivial⟩
      clear hK K
      try simp only [Act.put, List.setIfInBounds_toArray, List.set_cons_zero, List.set_cons_succ]
      refine wpAnyH_ready (rs := [5]) (by kernel_rfl) (by simp) ?_
      refine AllReadyH.cons (o := { dst := some 16, op := Op.call { callee := Callee.builtin Builtin.append, args := #[Operand.tmp 13, Operand.tmp 15], argTypes := #[30, 30] }, type := 30, pos := "freeze.go:82", after := #[{ on := 2, ground := Ground.data }, { on := 4, ground := Ground.data }, { on := 2, ground := Ground.chain }], guard := none }) rfl (fun K hK => ?_) AllReadyH.nil
      rw [if_pos (by rfl)]; refine wp_own_append _ _ 30 rfl _ 29 i0' _ 6 48 clone_und hi hz0 hz1 hz2 rfl (by decide) HO v5 _ _ rfl OW.out 3 _ _ _ rfl rfl rfl rfl ?_ ?_ ?_ ?_ ?_ ?_ ?_
      · have := HL.out; unfold maxLen; omega
      · have := HL.out; omega
      · first | omega | exact Nat.le_trans hqs hq2.size | (have := HO.q.size; omega)
      · first | omega | exact hqc
      · intro q hq i c' vs hi'; have hg := HGB.out q hq; rcases i with _ | _ | _ | _ | i <;> simp at hi' <;> (obtain ⟨rfl, rfl⟩ := hi'; omega)
      · intro q hq k b' o' cs hk hne e; have hg := HGB.out q hq; rcases k with _ | k <;> simp at hk; obtain ⟨rfl, rfl, rfl⟩ := hk; have := (HB.out hne).1; omega
      intro v6 w6 ho6 HOn; clear HO; have HO := HOn.takeL 3; simp only [List.take_succ_cons, List.take_zero] at HO; clear HOn; rw [← cellsR_snoc_in] at ho6; obtain ⟨g6, ⟨A6, cap6, rfl, hnc6, hcm6, hA6⟩, hr6⟩ := own_row ho6 (by decide); have hr6 := hr6 (cellsR_some inL_len (by decide) (by simp)); obtain rfl : A6 = some ⟨g6, 0, none⟩ := hA6 (by omega); have HOn := HO.push g6 0 (cellsR inL (ws ++ [_])) (fun _ => ⟨hr6.2.1, hr6.2.2, fun i c' vs hi' => by rcases i with _ | _ | _ | i <;> simp at hi' <;> (obtain ⟨rfl, rfl⟩ := hi'; have := hr6.1; omega)⟩); clear HO; have HO := HOn; clear HOn
      clear hHeld
      refine hK.out _ _ ?_ (fun hHeld => ?_)
      · (try dsimp only); exact ⟨HO.blk 1 _ _ rfl, trivial⟩
      clear hK K
      try simp only [Act.put, List.setIfInBounds_toArray, List.set_cons_zero, List.set_cons_succ]
      refine wpAnyH_take (i := 6) (oi := { dst := some 17, op := Op.fieldAddr 32 (Operand.tmp 2) 6, type := 0, pos := "freeze.go:82", after := #[{ on := 0, ground := Ground.phase }, { on := 1, ground := Ground.phase }, { on := 2, ground := Ground.phase }, { on := 3, ground := Ground.phase }, { on := 4, ground := Ground.phase }, { on := 5, ground := Ground.phase }], guard := none }) (v := ?_) rfl (by kernel_rfl) (by kernel_rfl) (by kernel_rfl) (fun _ _ _ h => h) (Or.inl ⟨by rfl, ?_⟩) (by assumption) ?_
      rotate_left
      · intro w hSw; (try dsimp only at hSw); go_simp; (try with_reducible rfl)
      try simp only [Act.put, List.setIfInBounds_toArray, List.set_cons_zero, List.set_cons_succ]
      refine wpAnyH_ready (rs := [7]) (by kernel_rfl) (by simp) ?_
      refine AllReadyH.cons (o := { dst := none, op := Op.store 30 (Operand.tmp 17) (Operand.tmp 16), type := 0, pos := "freeze.go:82", after := #[{ on := 6, ground := Ground.data }, { on := 5, ground := Ground.data }, { on := 5, ground := Ground.chain }, { on := 0, ground := Ground.phase }, { on := 1, ground := Ground.phase }, { on := 2, ground := Ground.phase }, { on := 3, ground := Ground.phase }, { on := 4, ground := Ground.phase }, { on := 5, ground := Ground.phase }], guard := none }) rfl (fun K hK => ?_) AllReadyH.nil
      rw [if_pos (by rfl)]; refine wp_own_store1 30 _ _ rfl HO oinfos_2 0 _ 18 _ (.slice (some ⟨g6, 0, none⟩) (n + 1) cap6) rfl rfl rfl rfl [i6 d0, uw d1, .bool d2, i6 d3, .bool d4, .bool d5, i6 d6, uw d7, .bool d8, .bool d9, .bool d10, i6 d11, i6 d12, i6 d13, i6 d14, uw d15, i6 d16, .bool d17, .slice (some ⟨g6, 0, none⟩) (n + 1) cap6] rfl (by simp) rfl ?_; intro WB HOn; (try simp only [List.set_cons_zero, List.set_cons_succ] at HOn); clear HO; have HO := HOn; clear HOn
      clear hHeld
      refine hK.out _ _ ?_ (fun hHeld => ?_)
      · (try dsimp only); exact ⟨HO.blk 1 _ _ rfl, trivial⟩
      clear hK K
      try simp only [Act.put, List.setIfInBounds_toArray, List.set_cons_zero, List.set_cons_succ]
      refine wpAnyH_done (by kernel_rfl) ?_ _
      go_wp2_with (first
      | (with_reducible refine own_at_load 32 ?_; refine wpList_own_whole rfl 32 _ rfl HO 19 _ Try.underlying32 rfl oinfo_0 0 _ _ rfl rfl rfl ?_)
      | (with_reducible refine own_at_store 32 ?_; refine wpList_own_putAllS rfl 32 _ _ rfl HO 19 oinfo_0 2 _ _ _ rfl rfl rfl rfl rfl rfl ?_; intro WB HOn; (try simp only [List.set_cons_zero, List.set_cons_succ] at HOn); clear HO; have HO := HOn; clear HOn))
      exact own_ret_ct HO _ _ _ rfl 2 _ _ _ rfl rfl rfl _ Try.underlying32 rfl oinfo_0 rfl ⟨g6, cap6, rfl, hnc6, hcm6, ⟨Nat.le_trans hqc hr6.1, (HO.rng 0 _ _ _ rfl (cellsR_some inL_len (by decide) (by simp))).1, (HO.rng 0 _ _ _ rfl (cellsR_some inL_len (by decide) (by simp))).2.1⟩, HO.q⟩
  · rw [if_pos (by rfl)]; refine wp_own_lit 30 _ rfl HO 29 _ rfl (lit_in _ _ _ _ _ _) ?_; intro nlit WB hnl hbl HOn; (try simp only [List.cons_append, List.nil_append] at HOn); clear HO; have HO := HOn; clear HOn; have hbs := hbl.size; (try (have OW2 := Lib.hid (row_below OW.out hbl); clear OW; have OW := OW2; clear OW2; have hlit2 : wc.heap.size ≤ nlit := (by first | exact hnl | exact Nat.le_trans (by simp) hnl))); clear hbl
    clear hHeld
    refine hK.out _ _ ?_ (fun hHeld => ?_)
    · (try dsimp only); exact ⟨HO.blk 1 _ _ rfl, trivial⟩
    clear hK K
    try simp only [Act.put, List.setIfInBounds_toArray, List.set_cons_zero, List.set_cons_succ]
    refine wpAnyH_ready (rs := [1]) (by kernel_rfl) (by simp) ?_
    refine AllReadyH.cons (o := { dst := some 12, op := Op.load 30 (Operand.tmp 11), type := 30, pos := "freeze.go:82", after := #[{ on := 0, ground := Ground.data }], guard := none }) rfl (fun K hK => ?_) AllReadyH.nil
    rw [if_pos (by rfl)]; refine wp_own_load1 30 _ rfl HO 0 _ 18 _ _ _ rfl rfl rfl Try.underlying30 rfl ?_
    clear hHeld
    refine hK.out _ _ ?_ (fun hHeld => ?_)
    · (try dsimp only); exact ⟨HO.blk 1 _ _ rfl, trivial⟩
    clear hK K
    try simp only [Act.put, List.setIfInBounds_toArray, List.set_cons_zero, List.set_cons_succ]
    refine wpAnyH_ready (rs := [2]) (by kernel_rfl) (by simp) ?_
    refine AllReadyH.cons (o := { dst := some 13, op := Op.call { callee := Callee.value (Operand.func 23), args := #[Operand.tmp 12], argTypes := #[30] }, type := 30, pos := "freeze.go:82", after := #[{ on := 1, ground := Ground.data }], guard := none }) rfl (fun K hK => ?_) AllReadyH.nil
    have HOc := HO.takeL 3; simp only [List.take_succ_cons, List.take_zero] at HOc; have z0 := (HO.blk 0 _ _ rfl).lt; have z1 := (HO.blk 1 _ _ rfl).lt; have z2 := (HO.blk 2 _ _ rfl).lt; (try have hlit : nlit < _ := (HO.blk 3 _ _ rfl).lt); go_simp; go_at_call 23; refine (clone_row _ ws b o _ ⟨a, c, by rw [HN.out], HC.out, HM.out, HA.out⟩ (fun hne => ⟨(HO.rng 0 _ _ _ rfl hne).1, (HO.rng 0 _ _ _ rfl hne).2.1⟩) HL.out).mono ?_; rintro e wc ⟨v5, rfl, ho5, hb⟩; have HOn := HO.below hb; clear HO; have HO := HOn; clear HOn; rw [HN.out] at ho5; have OW := Lib.hid ho5; have hgb : ∀ q, v5.ownBlock = some q → _ ≤ q ∧ q < wc.heap.size := fun q hq => ho5.lt q hq; have HGB := Lib.hid hgb; have hqc := HOc.q.size; have hqs := hb.size; clear ho5 hgb hb
    clear hHeld
    refine hK.out _ _ ?_ (fun hHeld => ?_)
    · (try dsimp only); exact ⟨HO.blk 1 _ _ rfl, trivial⟩
    clear hK K
    try simp only [Act.put, List.setIfInBounds_toArray, List.set_cons_zero, List.set_cons_succ]
    refine wpAnyH_ready (rs := [5]) (by kernel_rfl) (by simp) ?_
    refine AllReadyH.cons (o := { dst := some 16, op := Op.call { callee := Callee.builtin Builtin.append, args := #[Operand.tmp 13, Operand.tmp 15], argTypes := #[30, 30] }, type := 30, pos := "freeze.go:82", after := #[{ on := 2, ground := Ground.data }, { on := 4, ground := Ground.data }, { on := 2, ground := Ground.chain }], guard := none }) rfl (fun K hK => ?_) AllReadyH.nil
    rw [if_pos (by rfl)]; refine wp_own_append _ _ 30 rfl _ 29 i0' _ 6 48 clone_und hi hz0 hz1 hz2 rfl (by decide) HO v5 _ _ rfl OW.out 3 _ _ _ rfl rfl rfl rfl ?_ ?_ ?_ ?_ ?_ ?_ ?_
    · have := HL.out; unfold maxLen; omega
    · have := HL.out; omega
    · first | omega | exact Nat.le_trans hqs hq2.size | (have := HO.q.size; omega)
    · first | omega | exact hqc
    · intro q hq i c' vs hi'; have hg := HGB.out q hq; rcases i with _ | _ | _ | _ | i <;> simp at hi' <;> (obtain ⟨rfl, rfl⟩ := hi'; omega)
    · intro q hq k b' o' cs hk hne e; have hg := HGB.out q hq; rcases k with _ | k <;> simp at hk; obtain ⟨rfl, rfl, rfl⟩ := hk; have := (HB.out hne).1; omega
    intro v6 w6 ho6 HOn; clear HO; have HO := HOn.takeL 3; simp only [List.take_succ_cons, List.take_zero] at HO; clear HOn; rw [← cellsR_snoc_in] at ho6; obtain ⟨g6, ⟨A6, cap6, rfl, hnc6, hcm6, hA6⟩, hr6⟩ := own_row ho6 (by decide); have hr6 := hr6 (cellsR_some inL_len (by decide) (by simp)); obtain rfl : A6 = some ⟨g6, 0, none⟩ := hA6 (by omega); have HOn := HO.push g6 0 (cellsR inL (ws ++ [_])) (fun _ => ⟨hr6.2.1, hr6.2.2, fun i c' vs hi' => by rcases i with _ | _ | _ | i <;> simp at hi' <;> (obtain ⟨rfl, rfl⟩ := hi'; have := hr6.1; omega)⟩); clear HO; have HO := HOn; clear HOn
    clear hHeld
    refine hK.out _ _ ?_ (fun hHeld => ?_)
    · (try dsimp only); exact ⟨HO.blk 1 _ _ rfl, trivial⟩
    clear hK K
    try simp only [Act.put, List.setIfInBounds_toArray, List.set_cons_zero, List.set_cons_succ]
    refine wpAnyH_take (i := 6) (oi := { dst := some 17, op := Op.fieldAddr 32 (Operand.tmp 2) 6, type := 0, pos := "freeze.go:82", after := #[{ on := 0, ground := Ground.phase }, { on := 1, ground := Ground.phase }, { on := 2, ground := Ground.phase }, { on := 3, ground := Ground.phase }, { on := 4, ground := Ground.phase }, { on := 5, ground := Ground.phase }], guard := none }) (v := ?_) rfl (by kernel_rfl) (by kernel_rfl) (by kernel_rfl) (fun _ _ _ h => h) (Or.inl ⟨by rfl, ?_⟩) (by assumption) ?_
    rotate_left
    · intro w hSw; (try dsimp only at hSw); go_simp; (try with_reducible rfl)
    try simp only [Act.put, List.setIfInBounds_toArray, List.set_cons_zero, List.set_cons_succ]
    refine wpAnyH_ready (rs := [7]) (by kernel_rfl) (by simp) ?_
    refine AllReadyH.cons (o := { dst := none, op := Op.store 30 (Operand.tmp 17) (Operand.tmp 16), type := 0, pos := "freeze.go:82", after := #[{ on := 6, ground := Ground.data }, { on := 5, ground := Ground.data }, { on := 5, ground := Ground.chain }, { on := 0, ground := Ground.phase }, { on := 1, ground := Ground.phase }, { on := 2, ground := Ground.phase }, { on := 3, ground := Ground.phase }, { on := 4, ground := Ground.phase }, { on := 5, ground := Ground.phase }], guard := none }) rfl (fun K hK => ?_) AllReadyH.nil
    rw [if_pos (by rfl)]; refine wp_own_store1 30 _ _ rfl HO oinfos_2 0 _ 18 _ (.slice (some ⟨g6, 0, none⟩) (n + 1) cap6) rfl rfl rfl rfl [i6 d0, uw d1, .bool d2, i6 d3, .bool d4, .bool d5, i6 d6, uw d7, .bool d8, .bool d9, .bool d10, i6 d11, i6 d12, i6 d13, i6 d14, uw d15, i6 d16, .bool d17, .slice (some ⟨g6, 0, none⟩) (n + 1) cap6] rfl (by simp) rfl ?_; intro WB HOn; (try simp only [List.set_cons_zero, List.set_cons_succ] at HOn); clear HO; have HO := HOn; clear HOn
    clear hHeld
    refine hK.out _ _ ?_ (fun hHeld => ?_)
    · (try dsimp only); exact ⟨HO.blk 1 _ _ rfl, trivial⟩
    clear hK K
    try simp only [Act.put, List.setIfInBounds_toArray, List.set_cons_zero, List.set_cons_succ]
    refine wpAnyH_done (by kernel_rfl) ?_ _
    go_wp2_with (first
      | (with_reducible refine own_at_load 32 ?_; refine wpList_own_whole rfl 32 _ rfl HO 19 _ Try.underlying32 rfl oinfo_0 0 _ _ rfl rfl rfl ?_)
      | (with_reducible refine own_at_store 32 ?_; refine wpList_own_putAllS rfl 32 _ _ rfl HO 19 oinfo_0 2 _ _ _ rfl rfl rfl rfl rfl rfl ?_; intro WB HOn; (try simp only [List.set_cons_zero, List.set_cons_succ] at HOn); clear HO; have HO := HOn; clear HOn))
    exact own_ret_ct HO _ _ _ rfl 2 _ _ _ rfl rfl rfl _ Try.underlying32 rfl oinfo_0 rfl ⟨g6, cap6, rfl, hnc6, hcm6, ⟨Nat.le_trans hqc hr6.1, (HO.rng 0 _ _ _ rfl (cellsR_some inL_len (by decide) (by simp))).1, (HO.rng 0 _ _ _ rfl (cellsR_some inL_len (by decide) (by simp))).2.1⟩, HO.q⟩
end Go.Proofs.Ytgcedookbblibaa
