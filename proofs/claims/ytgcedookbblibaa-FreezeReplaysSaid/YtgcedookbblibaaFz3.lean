/- Layer 39: regions that draw their order. -/
import Derived.Test.YtgcedookbblibaaFz2
import Derived.BigQuiet
namespace Go.Proofs.Ytgcedookbblibaa
open Go Go.RowKit
set_option linter.unusedSimpArgs false
set_option linter.unusedVariables false
set_option maxRecDepth 100000 in
set_option maxHeartbeats 16000000 in
theorem active_f (d0 d1 : Int) (d2 : Bool) (d3 : Int) (d4 d5 : Bool) (d6 d7 : Int) (d8 d9 d10 : Bool) (d11 d12 d13 d14 d15 d16 : Int) (d17 : Bool) (a : Option Addr) (l c : Nat) (w : World) :
    Calls Try.prog 20 #[.agg #[i6 d0, uw d1, .bool d2, i6 d3, .bool d4, .bool d5, i6 d6, uw d7, .bool d8, .bool d9, .bool d10, i6 d11, i6 d12, i6 d13, i6 d14, uw d15, i6 d16, .bool d17, .slice a l c]] w fun e w' => e = .returned (.tuple #[.agg #[i6 d0, uw d1, .bool d2, i6 d3, .bool d4, .bool d5, i6 d6, uw d7], .bool d8]) ∧ Below w.heap.size w w' := by
  go_enter Try.func20, Try.ntmps20
  have HO := Own.nil w
  go_upto_region 1 with (first
      | (with_reducible refine own_at_box 32 ?_; refine ob_0 HO _ rfl ?_; intro nB WB HOn; (try simp only [List.cons_append, List.nil_append] at HOn); clear HO; have HO := HOn; clear HOn)
      | (with_reducible refine own_at_alloc 32 ?_; refine oa_0 HO ?_; intro nB WB HOn; (try simp only [List.cons_append, List.nil_append] at HOn); clear HO; have HO := HOn; clear HOn)
      | (with_reducible refine own_at_load 32 ?_; first | refine ol_0 HO rfl _ _ rfl (by repeat first | apply Has.head | apply Has.tail) rfl ?_ | refine op_0 HO rfl _ _ _ _ rfl (by repeat first | apply Has.head | apply Has.tail) (by repeat first | apply Part.done | apply Part.take | apply Part.skip) ?_)
      | (with_reducible refine own_at_store 32 ?_; refine os_0 HO _ rfl rfl _ _ rfl (by repeat first | apply Sto.head | apply Sto.tail | apply Patch.put | apply Patch.skip | apply Patch.done) rfl ?_; intro WB HOn; clear HO; have HO := HOn; clear HOn)
      | (with_reducible refine own_at_box 27 ?_; refine ob_1 HO _ rfl ?_; intro nB WB HOn; (try simp only [List.cons_append, List.nil_append] at HOn); clear HO; have HO := HOn; clear HOn)
      | (with_reducible refine own_at_alloc 27 ?_; refine oa_1 HO ?_; intro nB WB HOn; (try simp only [List.cons_append, List.nil_append] at HOn); clear HO; have HO := HOn; clear HOn)
      | (with_reducible refine own_at_load 27 ?_; first | refine ol_1 HO rfl _ _ rfl (by repeat first | apply Has.head | apply Has.tail) rfl ?_ | refine op_1 HO rfl _ _ _ _ rfl (by repeat first | apply Has.head | apply Has.tail) (by repeat first | apply Part.done | apply Part.take | apply Part.skip) ?_)
      | (with_reducible refine own_at_store 27 ?_; refine os_1 HO _ rfl rfl _ _ rfl (by repeat first | apply Sto.head | apply Sto.tail | apply Patch.put | apply Patch.skip | apply Patch.done) rfl ?_; intro WB HOn; clear HO; have HO := HOn; clear HOn)
      | (with_reducible refine own_at_box 29 ?_; refine ob_2 HO _ rfl ?_; intro nB WB HOn; (try simp only [List.cons_append, List.nil_append] at HOn); clear HO; have HO := HOn; clear HOn)
      | (with_reducible refine own_at_alloc 29 ?_; refine oa_2 HO ?_; intro nB WB HOn; (try simp only [List.cons_append, List.nil_append] at HOn); clear HO; have HO := HOn; clear HOn)
      | (with_reducible refine own_at_load 29 ?_; first | refine ol_2 HO rfl _ _ rfl (by repeat first | apply Has.head | apply Has.tail) rfl ?_ | refine op_2 HO rfl _ _ _ _ rfl (by repeat first | apply Has.head | apply Has.tail) (by repeat first | apply Part.done | apply Part.take | apply Part.skip) ?_)
      | (with_reducible refine own_at_store 29 ?_; refine os_2 HO _ rfl rfl _ _ rfl (by repeat first | apply Sto.head | apply Sto.tail | apply Patch.put | apply Patch.skip | apply Patch.done) rfl ?_; intro WB HOn; clear HO; have HO := HOn; clear HOn)
      | (with_reducible refine own_at_box 4 ?_; refine sb_0 HO (.bool _) rfl rfl ?_; intro nB WB HOn; (try simp only [List.cons_append, List.nil_append] at HOn); clear HO; have HO := HOn; clear HOn)
      | (with_reducible refine own_at_alloc 4 ?_; refine sa_0 HO ?_; intro nB WB HOn; (try simp only [List.cons_append, List.nil_append] at HOn); clear HO; have HO := HOn; clear HOn)
      | (with_reducible refine own_at_load 4 ?_; refine sl_0 HO rfl _ _ _ _ rfl (by repeat first | apply Has.head | apply Has.tail) rfl ?_)
      | (with_reducible refine own_at_store 4 ?_; refine st_0 HO (.bool _) rfl rfl _ _ rfl (by repeat first | apply Sto.head | apply Sto.tail | apply Patch.put | apply Patch.skip | apply Patch.done) rfl ?_; intro WB HOn; clear HO; have HO := HOn; clear HOn)
      | (with_reducible refine own_at_box 3 ?_; refine sb_1 HO (.int .i64 _) rfl rfl ?_; intro nB WB HOn; (try simp only [List.cons_append, List.nil_append] at HOn); clear HO; have HO := HOn; clear HOn)
      | (with_reducible refine own_at_alloc 3 ?_; refine sa_1 HO ?_; intro nB WB HOn; (try simp only [List.cons_append, List.nil_append] at HOn); clear HO; have HO := HOn; clear HOn)
      | (with_reducible refine own_at_load 3 ?_; refine sl_1 HO rfl _ _ _ _ rfl (by repeat first | apply Has.head | apply Has.tail) rfl ?_)
      | (with_reducible refine own_at_store 3 ?_; refine st_1 HO (.int .i64 _) rfl rfl _ _ rfl (by repeat first | apply Sto.head | apply Sto.tail | apply Patch.put | apply Patch.skip | apply Patch.done) rfl ?_; intro WB HOn; clear HO; have HO := HOn; clear HOn)
      | (with_reducible refine own_at_box 30 ?_; refine sb_2 HO (.slice _ _ _) rfl rfl ?_; intro nB WB HOn; (try simp only [List.cons_append, List.nil_append] at HOn); clear HO; have HO := HOn; clear HOn)
      | (with_reducible refine own_at_alloc 30 ?_; refine sa_2 HO ?_; intro nB WB HOn; (try simp only [List.cons_append, List.nil_append] at HOn); clear HO; have HO := HOn; clear HOn)
      | (with_reducible refine own_at_load 30 ?_; refine sl_2 HO rfl _ _ _ _ rfl (by repeat first | apply Has.head | apply Has.tail) rfl ?_)
      | (with_reducible refine own_at_store 30 ?_; refine st_2 HO (.slice _ _ _) rfl rfl _ _ rfl (by repeat first | apply Sto.head | apply Sto.tail | apply Patch.put | apply Patch.skip | apply Patch.done) rfl ?_; intro WB HOn; clear HO; have HO := HOn; clear HOn))
  obtain ⟨n0, n1, hn0, hn1⟩ := HO.names2
  subst hn0 hn1
  refine wp_region_held_drew (S := (fun W => Blk W n0 [i6 d0, uw d1, .bool d2, i6 d3, .bool d4, .bool d5, i6 d6, uw d7, .bool d8, .bool d9, .bool d10, i6 d11, i6 d12, i6 d13, i6 d14, uw d15, i6 d16, .bool d17, .slice a l c] ∧ True)) (by kernel_rfl) ?_ (fun hHeld => ?_)
  · (try dsimp only); have HOn := HO.drew; clear HO; have HO := HOn; exact ⟨HO.blk 0 _ _ rfl, trivial⟩
  have HOn := HO.drew; clear HO; have HO := HOn; clear HOn
  refine wpAnyH_take (i := 0) (oi := { dst := some 4, op := Op.fieldAddr 32 (Operand.tmp 1) 0, type := 0, pos := "freeze.go:60", after := #[], guard := none }) (v := ?_) rfl (by kernel_rfl) (by kernel_rfl) (by kernel_rfl) (fun _ _ _ h => h) (Or.inl ⟨by rfl, ?_⟩) (by assumption) ?_
  rotate_left
  · intro w hSw; (try dsimp only at hSw); go_simp; (try with_reducible rfl)
  try simp only [Act.put, List.setIfInBounds_toArray, List.set_cons_zero, List.set_cons_succ]
  refine wpAnyH_take (i := 1) (oi := { dst := some 5, op := Op.load 27 (Operand.tmp 4), type := 27, pos := "freeze.go:60", after := #[{ on := 0, ground := Ground.data }], guard := none }) (v := .agg (List.toArray [i6 d0, uw d1, .bool d2, i6 d3, .bool d4, .bool d5, i6 d6, uw d7])) rfl (by kernel_rfl) (by kernel_rfl) (by kernel_rfl) (fun _ _ _ h => h) (yieldsIf_load_mid (by rfl) _ _ rfl n0 0 rfl [i6 d0, uw d1, .bool d2, i6 d3, .bool d4, .bool d5, i6 d6, uw d7] _ (fun w hSw => blk_range hSw.1 0 _ rfl) Try.underlying27 rfl oinfo_1) (by assumption) ?_
  try simp only [Act.put, List.setIfInBounds_toArray, List.set_cons_zero, List.set_cons_succ]
  refine wpAnyH_take (i := 2) (oi := { dst := some 6, op := Op.fieldAddr 32 (Operand.tmp 1) 1, type := 0, pos := "freeze.go:60", after := #[{ on := 4, ground := Ground.gcOnly Departure.lateStores }], guard := none }) (v := ?_) rfl (by kernel_rfl) (by kernel_rfl) (by kernel_rfl) (fun _ _ _ h => h) (Or.inl ⟨by rfl, ?_⟩) (by assumption) ?_
  rotate_left
  · intro w hSw; (try dsimp only at hSw); go_simp; (try with_reducible rfl)
  try simp only [Act.put, List.setIfInBounds_toArray, List.set_cons_zero, List.set_cons_succ]
  refine wpAnyH_take (i := 3) (oi := { dst := some 7, op := Op.load 4 (Operand.tmp 6), type := 4, pos := "freeze.go:60", after := #[{ on := 2, ground := Ground.data }, { on := 4, ground := Ground.gcOnly Departure.lateStores }], guard := none }) (v := .bool d8) rfl (by kernel_rfl) (by kernel_rfl) (by kernel_rfl) (fun _ _ _ h => h) (yieldsIf_own_load1 (by rfl) _ _ rfl n0 8 rfl _ _ (fun w hSw => hSw.1.cell 8 rfl) Try.underlying4 rfl) (by assumption) ?_
  try simp only [Act.put, List.setIfInBounds_toArray, List.set_cons_zero, List.set_cons_succ]
  refine wpAnyH_ready (rs := [4]) (by kernel_rfl) (by simp) ?_
  refine AllReadyH.cons (o := { dst := none, op := Op.store 27 (Operand.tmp 2) (Operand.tmp 5), type := 0, pos := "freeze.go:60", after := #[{ on := 1, ground := Ground.data }, { on := 0, ground := Ground.phase }, { on := 1, ground := Ground.phase }, { on := 2, ground := Ground.textOnly Departure.lateStores }, { on := 3, ground := Ground.textOnly Departure.lateStores }], guard := none }) rfl (fun K hK => ?_) AllReadyH.nil
  rw [if_pos (by rfl)]; refine wp_own_storeS 27 _ _ rfl HO 8 oinfo_1 1 _ 0 _ [i6 d0, uw d1, .bool d2, i6 d3, .bool d4, .bool d5, i6 d6, uw d7] rfl rfl rfl rfl [i6 d0, uw d1, .bool d2, i6 d3, .bool d4, .bool d5, i6 d6, uw d7] rfl (by simp) rfl ?_; intro WB HOn; (try simp only [List.set_cons_zero, List.set_cons_succ] at HOn); clear HO; have HO := HOn; clear HOn
  clear hHeld
  refine hK.out _ _ ?_ (fun hHeld => ?_)
  · (try dsimp only); exact ⟨HO.blk 0 _ _ rfl, trivial⟩
  clear hK K
  try simp only [Act.put, List.setIfInBounds_toArray, List.set_cons_zero, List.set_cons_succ]
  refine wpAnyH_take (i := 5) (oi := { dst := some 3, op := Op.assign (Operand.tmp 7), type := 4, pos := "freeze.go:60", after := #[{ on := 3, ground := Ground.data }, { on := 4, ground := Ground.chain }, { on := 0, ground := Ground.phase }, { on := 1, ground := Ground.phase }, { on := 2, ground := Ground.phase }, { on := 3, ground := Ground.phase }, { on := 4, ground := Ground.phase }], guard := none }) (v := ?_) rfl (by kernel_rfl) (by kernel_rfl) (by kernel_rfl) (fun _ _ _ h => h) (Or.inl ⟨by rfl, ?_⟩) (by assumption) ?_
  rotate_left
  · intro w hSw; (try dsimp only at hSw); go_simp; (try with_reducible rfl)
  try simp only [Act.put, List.setIfInBounds_toArray, List.set_cons_zero, List.set_cons_succ]
  refine wpAnyH_done (by kernel_rfl) ?_ _
  go_wp2_with fail
  exact own_ret_ct HO _ _ _ rfl 1 _ _ _ rfl rfl rfl _ Try.underlying27 rfl oinfo_1 rfl ⟨rfl, HO.q⟩
def pressB (k : Int) : Bool := decide (1 ≤ k) && decide (k ≤ 4)
set_option maxRecDepth 100000 in
set_option maxHeartbeats 16000000 in
theorem press_f (i0 i1 i2 i3 i4 i5 : Int) (w : World) :
    Calls Try.prog 34 #[.agg #[i6 i0, i6 i1, i6 i2, i6 i3, uw i4, i6 i5]] w fun e w' => e = .returned (.bool (pressB i0)) ∧ Below w.heap.size w w' := by
  unfold pressB
  by_cases h1 : 1 ≤ i0
  · by_cases h2 : i0 ≤ 4
    all_goals
      go_enter Try.func34, Try.ntmps34
      have HO := Own.nil w
      go_wp2_with (first
      | (with_reducible refine own_at_box 32 ?_; refine ob_0 HO _ rfl ?_; intro nB WB HOn; (try simp only [List.cons_append, List.nil_append] at HOn); clear HO; have HO := HOn; clear HOn)
      | (with_reducible refine own_at_alloc 32 ?_; refine oa_0 HO ?_; intro nB WB HOn; (try simp only [List.cons_append, List.nil_append] at HOn); clear HO; have HO := HOn; clear HOn)
      | (with_reducible refine own_at_load 32 ?_; first | refine ol_0 HO rfl _ _ rfl (by repeat first | apply Has.head | apply Has.tail) rfl ?_ | refine op_0 HO rfl _ _ _ _ rfl (by repeat first | apply Has.head | apply Has.tail) (by repeat first | apply Part.done | apply Part.take | apply Part.skip) ?_)
      | (with_reducible refine own_at_store 32 ?_; refine os_0 HO _ rfl rfl _ _ rfl (by repeat first | apply Sto.head | apply Sto.tail | apply Patch.put | apply Patch.skip | apply Patch.done) rfl ?_; intro WB HOn; clear HO; have HO := HOn; clear HOn)
      | (with_reducible refine own_at_box 27 ?_; refine ob_1 HO _ rfl ?_; intro nB WB HOn; (try simp only [List.cons_append, List.nil_append] at HOn); clear HO; have HO := HOn; clear HOn)
      | (with_reducible refine own_at_alloc 27 ?_; refine oa_1 HO ?_; intro nB WB HOn; (try simp only [List.cons_append, List.nil_append] at HOn); clear HO; have HO := HOn; clear HOn)
      | (with_reducible refine own_at_load 27 ?_; first | refine ol_1 HO rfl _ _ rfl (by repeat first | apply Has.head | apply Has.tail) rfl ?_ | refine op_1 HO rfl _ _ _ _ rfl (by repeat first | apply Has.head | apply Has.tail) (by repeat first | apply Part.done | apply Part.take | apply Part.skip) ?_)
      | (with_reducible refine own_at_store 27 ?_; refine os_1 HO _ rfl rfl _ _ rfl (by repeat first | apply Sto.head | apply Sto.tail | apply Patch.put | apply Patch.skip | apply Patch.done) rfl ?_; intro WB HOn; clear HO; have HO := HOn; clear HOn)
      | (with_reducible refine own_at_box 29 ?_; refine ob_2 HO _ rfl ?_; intro nB WB HOn; (try simp only [List.cons_append, List.nil_append] at HOn); clear HO; have HO := HOn; clear HOn)
      | (with_reducible refine own_at_alloc 29 ?_; refine oa_2 HO ?_; intro nB WB HOn; (try simp only [List.cons_append, List.nil_append] at HOn); clear HO; have HO := HOn; clear HOn)
      | (with_reducible refine own_at_load 29 ?_; first | refine ol_2 HO rfl _ _ rfl (by repeat first | apply Has.head | apply Has.tail) rfl ?_ | refine op_2 HO rfl _ _ _ _ rfl (by repeat first | apply Has.head | apply Has.tail) (by repeat first | apply Part.done | apply Part.take | apply Part.skip) ?_)
      | (with_reducible refine own_at_store 29 ?_; refine os_2 HO _ rfl rfl _ _ rfl (by repeat first | apply Sto.head | apply Sto.tail | apply Patch.put | apply Patch.skip | apply Patch.done) rfl ?_; intro WB HOn; clear HO; have HO := HOn; clear HOn)
      | (with_reducible refine own_at_box 4 ?_; refine sb_0 HO (.bool _) rfl rfl ?_; intro nB WB HOn; (try simp only [List.cons_append, List.nil_append] at HOn); clear HO; have HO := HOn; clear HOn)
      | (with_reducible refine own_at_alloc 4 ?_; refine sa_0 HO ?_; intro nB WB HOn; (try simp only [List.cons_append, List.nil_append] at HOn); clear HO; have HO := HOn; clear HOn)
      | (with_reducible refine own_at_load 4 ?_; refine sl_0 HO rfl _ _ _ _ rfl (by repeat first | apply Has.head | apply Has.tail) rfl ?_)
      | (with_reducible refine own_at_store 4 ?_; refine st_0 HO (.bool _) rfl rfl _ _ rfl (by repeat first | apply Sto.head | apply Sto.tail | apply Patch.put | apply Patch.skip | apply Patch.done) rfl ?_; intro WB HOn; clear HO; have HO := HOn; clear HOn)
      | (with_reducible refine own_at_box 3 ?_; refine sb_1 HO (.int .i64 _) rfl rfl ?_; intro nB WB HOn; (try simp only [List.cons_append, List.nil_append] at HOn); clear HO; have HO := HOn; clear HOn)
      | (with_reducible refine own_at_alloc 3 ?_; refine sa_1 HO ?_; intro nB WB HOn; (try simp only [List.cons_append, List.nil_append] at HOn); clear HO; have HO := HOn; clear HOn)
      | (with_reducible refine own_at_load 3 ?_; refine sl_1 HO rfl _ _ _ _ rfl (by repeat first | apply Has.head | apply Has.tail) rfl ?_)
      | (with_reducible refine own_at_store 3 ?_; refine st_1 HO (.int .i64 _) rfl rfl _ _ rfl (by repeat first | apply Sto.head | apply Sto.tail | apply Patch.put | apply Patch.skip | apply Patch.done) rfl ?_; intro WB HOn; clear HO; have HO := HOn; clear HOn)
      | (with_reducible refine own_at_box 30 ?_; refine sb_2 HO (.slice _ _ _) rfl rfl ?_; intro nB WB HOn; (try simp only [List.cons_append, List.nil_append] at HOn); clear HO; have HO := HOn; clear HOn)
      | (with_reducible refine own_at_alloc 30 ?_; refine sa_2 HO ?_; intro nB WB HOn; (try simp only [List.cons_append, List.nil_append] at HOn); clear HO; have HO := HOn; clear HOn)
      | (with_reducible refine own_at_load 30 ?_; refine sl_2 HO rfl _ _ _ _ rfl (by repeat first | apply Has.head | apply Has.tail) rfl ?_)
      | (with_reducible refine own_at_store 30 ?_; refine st_2 HO (.slice _ _ _) rfl rfl _ _ rfl (by repeat first | apply Sto.head | apply Sto.tail | apply Patch.put | apply Patch.skip | apply Patch.done) rfl ?_; intro WB HOn; clear HO; have HO := HOn; clear HOn))
      go_returns
      exact ⟨by first | rfl | (simp [h1, h2]; done) | (simp; omega), HO.q⟩
  · go_enter Try.func34, Try.ntmps34
    have HO := Own.nil w
    go_wp2_with (first
      | (with_reducible refine own_at_box 32 ?_; refine ob_0 HO _ rfl ?_; intro nB WB HOn; (try simp only [List.cons_append, List.nil_append] at HOn); clear HO; have HO := HOn; clear HOn)
      | (with_reducible refine own_at_alloc 32 ?_; refine oa_0 HO ?_; intro nB WB HOn; (try simp only [List.cons_append, List.nil_append] at HOn); clear HO; have HO := HOn; clear HOn)
      | (with_reducible refine own_at_load 32 ?_; first | refine ol_0 HO rfl _ _ rfl (by repeat first | apply Has.head | apply Has.tail) rfl ?_ | refine op_0 HO rfl _ _ _ _ rfl (by repeat first | apply Has.head | apply Has.tail) (by repeat first | apply Part.done | apply Part.take | apply Part.skip) ?_)
      | (with_reducible refine own_at_store 32 ?_; refine os_0 HO _ rfl rfl _ _ rfl (by repeat first | apply Sto.head | apply Sto.tail | apply Patch.put | apply Patch.skip | apply Patch.done) rfl ?_; intro WB HOn; clear HO; have HO := HOn; clear HOn)
      | (with_reducible refine own_at_box 27 ?_; refine ob_1 HO _ rfl ?_; intro nB WB HOn; (try simp only [List.cons_append, List.nil_append] at HOn); clear HO; have HO := HOn; clear HOn)
      | (with_reducible refine own_at_alloc 27 ?_; refine oa_1 HO ?_; intro nB WB HOn; (try simp only [List.cons_append, List.nil_append] at HOn); clear HO; have HO := HOn; clear HOn)
      | (with_reducible refine own_at_load 27 ?_; first | refine ol_1 HO rfl _ _ rfl (by repeat first | apply Has.head | apply Has.tail) rfl ?_ | refine op_1 HO rfl _ _ _ _ rfl (by repeat first | apply Has.head | apply Has.tail) (by repeat first | apply Part.done | apply Part.take | apply Part.skip) ?_)
      | (with_reducible refine own_at_store 27 ?_; refine os_1 HO _ rfl rfl _ _ rfl (by repeat first | apply Sto.head | apply Sto.tail | apply Patch.put | apply Patch.skip | apply Patch.done) rfl ?_; intro WB HOn; clear HO; have HO := HOn; clear HOn)
      | (with_reducible refine own_at_box 29 ?_; refine ob_2 HO _ rfl ?_; intro nB WB HOn; (try simp only [List.cons_append, List.nil_append] at HOn); clear HO; have HO := HOn; clear HOn)
      | (with_reducible refine own_at_alloc 29 ?_; refine oa_2 HO ?_; intro nB WB HOn; (try simp only [List.cons_append, List.nil_append] at HOn); clear HO; have HO := HOn; clear HOn)
      | (with_reducible refine own_at_load 29 ?_; first | refine ol_2 HO rfl _ _ rfl (by repeat first | apply Has.head | apply Has.tail) rfl ?_ | refine op_2 HO rfl _ _ _ _ rfl (by repeat first | apply Has.head | apply Has.tail) (by repeat first | apply Part.done | apply Part.take | apply Part.skip) ?_)
      | (with_reducible refine own_at_store 29 ?_; refine os_2 HO _ rfl rfl _ _ rfl (by repeat first | apply Sto.head | apply Sto.tail | apply Patch.put | apply Patch.skip | apply Patch.done) rfl ?_; intro WB HOn; clear HO; have HO := HOn; clear HOn)
      | (with_reducible refine own_at_box 4 ?_; refine sb_0 HO (.bool _) rfl rfl ?_; intro nB WB HOn; (try simp only [List.cons_append, List.nil_append] at HOn); clear HO; have HO := HOn; clear HOn)
      | (with_reducible refine own_at_alloc 4 ?_; refine sa_0 HO ?_; intro nB WB HOn; (try simp only [List.cons_append, List.nil_append] at HOn); clear HO; have HO := HOn; clear HOn)
      | (with_reducible refine own_at_load 4 ?_; refine sl_0 HO rfl _ _ _ _ rfl (by repeat first | apply Has.head | apply Has.tail) rfl ?_)
      | (with_reducible refine own_at_store 4 ?_; refine st_0 HO (.bool _) rfl rfl _ _ rfl (by repeat first | apply Sto.head | apply Sto.tail | apply Patch.put | apply Patch.skip | apply Patch.done) rfl ?_; intro WB HOn; clear HO; have HO := HOn; clear HOn)
      | (with_reducible refine own_at_box 3 ?_; refine sb_1 HO (.int .i64 _) rfl rfl ?_; intro nB WB HOn; (try simp only [List.cons_append, List.nil_append] at HOn); clear HO; have HO := HOn; clear HOn)
      | (with_reducible refine own_at_alloc 3 ?_; refine sa_1 HO ?_; intro nB WB HOn; (try simp only [List.cons_append, List.nil_append] at HOn); clear HO; have HO := HOn; clear HOn)
      | (with_reducible refine own_at_load 3 ?_; refine sl_1 HO rfl _ _ _ _ rfl (by repeat first | apply Has.head | apply Has.tail) rfl ?_)
      | (with_reducible refine own_at_store 3 ?_; refine st_1 HO (.int .i64 _) rfl rfl _ _ rfl (by repeat first | apply Sto.head | apply Sto.tail | apply Patch.put | apply Patch.skip | apply Patch.done) rfl ?_; intro WB HOn; clear HO; have HO := HOn; clear HOn)
      | (with_reducible refine own_at_box 30 ?_; refine sb_2 HO (.slice _ _ _) rfl rfl ?_; intro nB WB HOn; (try simp only [List.cons_append, List.nil_append] at HOn); clear HO; have HO := HOn; clear HOn)
      | (with_reducible refine own_at_alloc 30 ?_; refine sa_2 HO ?_; intro nB WB HOn; (try simp only [List.cons_append, List.nil_append] at HOn); clear HO; have HO := HOn; clear HOn)
      | (with_reducible refine own_at_load 30 ?_; refine sl_2 HO rfl _ _ _ _ rfl (by repeat first | apply Has.head | apply Has.tail) rfl ?_)
      | (with_reducible refine own_at_store 30 ?_; refine st_2 HO (.slice _ _ _) rfl rfl _ _ rfl (by repeat first | apply Sto.head | apply Sto.tail | apply Patch.put | apply Patch.skip | apply Patch.done) rfl ?_; intro WB HOn; clear HO; have HO := HOn; clear HOn))
    go_returns
    exact ⟨by first | rfl | (simp [h1]; done) | (simp; omega), HO.q⟩
set_option maxRecDepth 100000 in
set_option maxHeartbeats 16000000 in
theorem replay_no (d0 d1 : Int) (d2 : Bool) (d3 : Int) (d4 d5 : Bool) (d6 d7 : Int) (d8 d9 d10 : Bool) (d11 d12 d13 d14 d15 d16 : Int) (d17 : Bool) (a : Option Addr) (l c : Nat) (hn : d17 = false ∨ d8 = false) (w : World) :
    Calls Try.prog 27 #[.agg #[i6 d0, uw d1, .bool d2, i6 d3, .bool d4, .bool d5, i6 d6, uw d7, .bool d8, .bool d9, .bool d10, i6 d11, i6 d12, i6 d13, i6 d14, uw d15, i6 d16, .bool d17, .slice a l c]] w fun e w' => e = .returned (.tuple #[.agg #[i6 d0, uw d1, .bool d2, i6 d3, .bool d4, .bool d5, i6 d6, uw d7, .bool d8, .bool d9, .bool d10, i6 d11, i6 d12, i6 d13, i6 d14, uw d15, i6 d16, .bool d17, .slice a l c], .agg #[i6 0, i6 0, i6 0, i6 0, uw 0, i6 0], .bool false]) ∧ Below w.heap.size w w' := by
  cases d17
  · go_enter Try.func27, Try.ntmps27
    have HO := Own.nil w
    go_wp2_with (first
      | (with_reducible refine own_at_box 32 ?_; refine ob_0 HO _ rfl ?_; intro nB WB HOn; (try simp only [List.cons_append, List.nil_append] at HOn); clear HO; have HO := HOn; clear HOn)
      | (with_reducible refine own_at_alloc 32 ?_; refine oa_0 HO ?_; intro nB WB HOn; (try simp only [List.cons_append, List.nil_append] at HOn); clear HO; have HO := HOn; clear HOn)
      | (with_reducible refine own_at_load 32 ?_; first | refine ol_0 HO rfl _ _ rfl (by repeat first | apply Has.head | apply Has.tail) rfl ?_ | refine op_0 HO rfl _ _ _ _ rfl (by repeat first | apply Has.head | apply Has.tail) (by repeat first | apply Part.done | apply Part.take | apply Part.skip) ?_)
      | (with_reducible refine own_at_store 32 ?_; refine os_0 HO _ rfl rfl _ _ rfl (by repeat first | apply Sto.head | apply Sto.tail | apply Patch.put | apply Patch.skip | apply Patch.done) rfl ?_; intro WB HOn; clear HO; have HO := HOn; clear HOn)
      | (with_reducible refine own_at_box 27 ?_; refine ob_1 HO _ rfl ?_; intro nB WB HOn; (try simp only [List.cons_append, List.nil_append] at HOn); clear HO; have HO := HOn; clear HOn)
      | (with_reducible refine own_at_alloc 27 ?_; refine oa_1 HO ?_; intro nB WB HOn; (try simp only [List.cons_append, List.nil_append] at HOn); clear HO; have HO := HOn; clear HOn)
      | (with_reducible refine own_at_load 27 ?_; first | refine ol_1 HO rfl _ _ rfl (by repeat first | apply Has.head | apply Has.tail) rfl ?_ | refine op_1 HO rfl _ _ _ _ rfl (by repeat first | apply Has.head | apply Has.tail) (by repeat first | apply Part.done | apply Part.take | apply Part.skip) ?_)
      | (with_reducible refine own_at_store 27 ?_; refine os_1 HO _ rfl rfl _ _ rfl (by repeat first | apply Sto.head | apply Sto.tail | apply Patch.put | apply Patch.skip | apply Patch.done) rfl ?_; intro WB HOn; clear HO; have HO := HOn; clear HOn)
      | (with_reducible refine own_at_box 29 ?_; refine ob_2 HO _ rfl ?_; intro nB WB HOn; (try simp only [List.cons_append, List.nil_append] at HOn); clear HO; have HO := HOn; clear HOn)
      | (with_reducible refine own_at_alloc 29 ?_; refine oa_2 HO ?_; intro nB WB HOn; (try simp only [List.cons_append, List.nil_append] at HOn); clear HO; have HO := HOn; clear HOn)
      | (with_reducible refine own_at_load 29 ?_; first | refine ol_2 HO rfl _ _ rfl (by repeat first | apply Has.head | apply Has.tail) rfl ?_ | refine op_2 HO rfl _ _ _ _ rfl (by repeat first | apply Has.head | apply Has.tail) (by repeat first | apply Part.done | apply Part.take | apply Part.skip) ?_)
      | (with_reducible refine own_at_store 29 ?_; refine os_2 HO _ rfl rfl _ _ rfl (by repeat first | apply Sto.head | apply Sto.tail | apply Patch.put | apply Patch.skip | apply Patch.done) rfl ?_; intro WB HOn; clear HO; have HO := HOn; clear HOn)
      | (with_reducible refine own_at_box 4 ?_; refine sb_0 HO (.bool _) rfl rfl ?_; intro nB WB HOn; (try simp only [List.cons_append, List.nil_append] at HOn); clear HO; have HO := HOn; clear HOn)
      | (with_reducible refine own_at_alloc 4 ?_; refine sa_0 HO ?_; intro nB WB HOn; (try simp only [List.cons_append, List.nil_append] at HOn); clear HO; have HO := HOn; clear HOn)
      | (with_reducible refine own_at_load 4 ?_; refine sl_0 HO rfl _ _ _ _ rfl (by repeat first | apply Has.head | apply Has.tail) rfl ?_)
      | (with_reducible refine own_at_store 4 ?_; refine st_0 HO (.bool _) rfl rfl _ _ rfl (by repeat first | apply Sto.head | apply Sto.tail | apply Patch.put | apply Patch.skip | apply Patch.done) rfl ?_; intro WB HOn; clear HO; have HO := HOn; clear HOn)
      | (with_reducible refine own_at_box 3 ?_; refine sb_1 HO (.int .i64 _) rfl rfl ?_; intro nB WB HOn; (try simp only [List.cons_append, List.nil_append] at HOn); clear HO; have HO := HOn; clear HOn)
      | (with_reducible refine own_at_alloc 3 ?_; refine sa_1 HO ?_; intro nB WB HOn; (try simp only [List.cons_append, List.nil_append] at HOn); clear HO; have HO := HOn; clear HOn)
      | (with_reducible refine own_at_load 3 ?_; refine sl_1 HO rfl _ _ _ _ rfl (by repeat first | apply Has.head | apply Has.tail) rfl ?_)
      | (with_reducible refine own_at_store 3 ?_; refine st_1 HO (.int .i64 _) rfl rfl _ _ rfl (by repeat first | apply Sto.head | apply Sto.tail | apply Patch.put | apply Patch.skip | apply Patch.done) rfl ?_; intro WB HOn; clear HO; have HO := HOn; clear HOn)
      | (with_reducible refine own_at_box 30 ?_; refine sb_2 HO (.slice _ _ _) rfl rfl ?_; intro nB WB HOn; (try simp only [List.cons_append, List.nil_append] at HOn); clear HO; have HO := HOn; clear HOn)
      | (with_reducible refine own_at_alloc 30 ?_; refine sa_2 HO ?_; intro nB WB HOn; (try simp only [List.cons_append, List.nil_append] at HOn); clear HO; have HO := HOn; clear HOn)
      | (with_reducible refine own_at_load 30 ?_; refine sl_2 HO rfl _ _ _ _ rfl (by repeat first | apply Has.head | apply Has.tail) rfl ?_)
      | (with_reducible refine own_at_store 30 ?_; refine st_2 HO (.slice _ _ _) rfl rfl _ _ rfl (by repeat first | apply Sto.head | apply Sto.tail | apply Patch.put | apply Patch.skip | apply Patch.done) rfl ?_; intro WB HOn; clear HO; have HO := HOn; clear HOn))
    exact own_ret_cct HO _ _ _ _ _ rfl 1 2 _ _ _ _ _ rfl rfl rfl rfl rfl _ _ Try.underlying32 rfl oinfo_0 Try.underlying29 rfl oinfo_2 rfl ⟨rfl, HO.q⟩
  · obtain rfl : d8 = false := by simpa using hn
    go_enter Try.func27, Try.ntmps27
    have HO := Own.nil w
    go_wp2_with (first
      | (with_reducible refine own_at_box 32 ?_; refine ob_0 HO _ rfl ?_; intro nB WB HOn; (try simp only [List.cons_append, List.nil_append] at HOn); clear HO; have HO := HOn; clear HOn)
      | (with_reducible refine own_at_alloc 32 ?_; refine oa_0 HO ?_; intro nB WB HOn; (try simp only [List.cons_append, List.nil_append] at HOn); clear HO; have HO := HOn; clear HOn)
      | (with_reducible refine own_at_load 32 ?_; first | refine ol_0 HO rfl _ _ rfl (by repeat first | apply Has.head | apply Has.tail) rfl ?_ | refine op_0 HO rfl _ _ _ _ rfl (by repeat first | apply Has.head | apply Has.tail) (by repeat first | apply Part.done | apply Part.take | apply Part.skip) ?_)
      | (with_reducible refine own_at_store 32 ?_; refine os_0 HO _ rfl rfl _ _ rfl (by repeat first | apply Sto.head | apply Sto.tail | apply Patch.put | apply Patch.skip | apply Patch.done) rfl ?_; intro WB HOn; clear HO; have HO := HOn; clear HOn)
      | (with_reducible refine own_at_box 27 ?_; refine ob_1 HO _ rfl ?_; intro nB WB HOn; (try simp only [List.cons_append, List.nil_append] at HOn); clear HO; have HO := HOn; clear HOn)
      | (with_reducible refine own_at_alloc 27 ?_; refine oa_1 HO ?_; intro nB WB HOn; (try simp only [List.cons_append, List.nil_append] at HOn); clear HO; have HO := HOn; clear HOn)
      | (with_reducible refine own_at_load 27 ?_; first | refine ol_1 HO rfl _ _ rfl (by repeat first | apply Has.head | apply Has.tail) rfl ?_ | refine op_1 HO rfl _ _ _ _ rfl (by repeat first | apply Has.head | apply Has.tail) (by repeat first | apply Part.done | apply Part.take | apply Part.skip) ?_)
      | (with_reducible refine own_at_store 27 ?_; refine os_1 HO _ rfl rfl _ _ rfl (by repeat first | apply Sto.head | apply Sto.tail | apply Patch.put | apply Patch.skip | apply Patch.done) rfl ?_; intro WB HOn; clear HO; have HO := HOn; clear HOn)
      | (with_reducible refine own_at_box 29 ?_; refine ob_2 HO _ rfl ?_; intro nB WB HOn; (try simp only [List.cons_append, List.nil_append] at HOn); clear HO; have HO := HOn; clear HOn)
      | (with_reducible refine own_at_alloc 29 ?_; refine oa_2 HO ?_; intro nB WB HOn; (try simp only [List.cons_append, List.nil_append] at HOn); clear HO; have HO := HOn; clear HOn)
      | (with_reducible refine own_at_load 29 ?_; first | refine ol_2 HO rfl _ _ rfl (by repeat first | apply Has.head | apply Has.tail) rfl ?_ | refine op_2 HO rfl _ _ _ _ rfl (by repeat first | apply Has.head | apply Has.tail) (by repeat first | apply Part.done | apply Part.take | apply Part.skip) ?_)
      | (with_reducible refine own_at_store 29 ?_; refine os_2 HO _ rfl rfl _ _ rfl (by repeat first | apply Sto.head | apply Sto.tail | apply Patch.put | apply Patch.skip | apply Patch.done) rfl ?_; intro WB HOn; clear HO; have HO := HOn; clear HOn)
      | (with_reducible refine own_at_box 4 ?_; refine sb_0 HO (.bool _) rfl rfl ?_; intro nB WB HOn; (try simp only [List.cons_append, List.nil_append] at HOn); clear HO; have HO := HOn; clear HOn)
      | (with_reducible refine own_at_alloc 4 ?_; refine sa_0 HO ?_; intro nB WB HOn; (try simp only [List.cons_append, List.nil_append] at HOn); clear HO; have HO := HOn; clear HOn)
      | (with_reducible refine own_at_load 4 ?_; refine sl_0 HO rfl _ _ _ _ rfl (by repeat first | apply Has.head | apply Has.tail) rfl ?_)
      | (with_reducible refine own_at_store 4 ?_; refine st_0 HO (.bool _) rfl rfl _ _ rfl (by repeat first | apply Sto.head | apply Sto.tail | apply Patch.put | apply Patch.skip | apply Patch.done) rfl ?_; intro WB HOn; clear HO; have HO := HOn; clear HOn)
      | (with_reducible refine own_at_box 3 ?_; refine sb_1 HO (.int .i64 _) rfl rfl ?_; intro nB WB HOn; (try simp only [List.cons_append, List.nil_append] at HOn); clear HO; have HO := HOn; clear HOn)
      | (with_reducible refine own_at_alloc 3 ?_; refine sa_1 HO ?_; intro nB WB HOn; (try simp only [List.cons_append, List.nil_append] at HOn); clear HO; have HO := HOn; clear HOn)
      | (with_reducible refine own_at_load 3 ?_; refine sl_1 HO rfl _ _ _ _ rfl (by repeat first | apply Has.head | apply Has.tail) rfl ?_)
      | (with_reducible refine own_at_store 3 ?_; refine st_1 HO (.int .i64 _) rfl rfl _ _ rfl (by repeat first | apply Sto.head | apply Sto.tail | apply Patch.put | apply Patch.skip | apply Patch.done) rfl ?_; intro WB HOn; clear HO; have HO := HOn; clear HOn)
      | (with_reducible refine own_at_box 30 ?_; refine sb_2 HO (.slice _ _ _) rfl rfl ?_; intro nB WB HOn; (try simp only [List.cons_append, List.nil_append] at HOn); clear HO; have HO := HOn; clear HOn)
      | (with_reducible refine own_at_alloc 30 ?_; refine sa_2 HO ?_; intro nB WB HOn; (try simp only [List.cons_append, List.nil_append] at HOn); clear HO; have HO := HOn; clear HOn)
      | (with_reducible refine own_at_load 30 ?_; refine sl_2 HO rfl _ _ _ _ rfl (by repeat first | apply Has.head | apply Has.tail) rfl ?_)
      | (with_reducible refine own_at_store 30 ?_; refine st_2 HO (.slice _ _ _) rfl rfl _ _ rfl (by repeat first | apply Sto.head | apply Sto.tail | apply Patch.put | apply Patch.skip | apply Patch.done) rfl ?_; intro WB HOn; clear HO; have HO := HOn; clear HOn))
    exact own_ret_cct HO _ _ _ _ _ rfl 1 2 _ _ _ _ _ rfl rfl rfl rfl rfl _ _ Try.underlying32 rfl oinfo_0 Try.underlying29 rfl oinfo_2 rfl ⟨rfl, HO.q⟩
set_option maxRecDepth 100000 in
set_option maxHeartbeats 16000000 in
theorem replay_yes (d0 d1 : Int) (d2 : Bool) (d3 : Int) (d4 d5 : Bool) (d6 d7 : Int) (d9 d10 : Bool) (d11 d12 d13 d14 d15 d16 : Int) (a : Option Addr) (l c : Nat) (w : World) :
    Calls Try.prog 27 #[.agg #[i6 d0, uw d1, .bool d2, i6 d3, .bool d4, .bool d5, i6 d6, uw d7, .bool true, .bool d9, .bool d10, i6 d11, i6 d12, i6 d13, i6 d14, uw d15, i6 d16, .bool true, .slice a l c]] w fun e w' => e = .returned (.tuple #[.agg #[i6 0, uw 0, .bool false, i6 0, .bool false, .bool false, i6 0, uw 0, .bool false, .bool false, .bool false, i6 0, i6 0, i6 0, i6 0, uw 0, i6 0, .bool false, .slice a l c], .agg #[i6 d11, i6 d12, i6 d13, i6 d14, uw d15, i6 d16], .bool true]) ∧ Below w.heap.size w w' := by
  go_enter Try.func27, Try.ntmps27
  have HO := Own.nil w
  go_upto_region 3 with (first
      | (with_reducible refine own_at_box 32 ?_; refine ob_0 HO _ rfl ?_; intro nB WB HOn; (try simp only [List.cons_append, List.nil_append] at HOn); clear HO; have HO := HOn; clear HOn)
      | (with_reducible refine own_at_alloc 32 ?_; refine oa_0 HO ?_; intro nB WB HOn; (try simp only [List.cons_append, List.nil_append] at HOn); clear HO; have HO := HOn; clear HOn)
      | (with_reducible refine own_at_load 32 ?_; first | refine ol_0 HO rfl _ _ rfl (by repeat first | apply Has.head | apply Has.tail) rfl ?_ | refine op_0 HO rfl _ _ _ _ rfl (by repeat first | apply Has.head | apply Has.tail) (by repeat first | apply Part.done | apply Part.take | apply Part.skip) ?_)
      | (with_reducible refine own_at_store 32 ?_; refine os_0 HO _ rfl rfl _ _ rfl (by repeat first | apply Sto.head | apply Sto.tail | apply Patch.put | apply Patch.skip | apply Patch.done) rfl ?_; intro WB HOn; clear HO; have HO := HOn; clear HOn)
      | (with_reducible refine own_at_box 27 ?_; refine ob_1 HO _ rfl ?_; intro nB WB HOn; (try simp only [List.cons_append, List.nil_append] at HOn); clear HO; have HO := HOn; clear HOn)
      | (with_reducible refine own_at_alloc 27 ?_; refine oa_1 HO ?_; intro nB WB HOn; (try simp only [List.cons_append, List.nil_append] at HOn); clear HO; have HO := HOn; clear HOn)
      | (with_reducible refine own_at_load 27 ?_; first | refine ol_1 HO rfl _ _ rfl (by repeat first | apply Has.head | apply Has.tail) rfl ?_ | refine op_1 HO rfl _ _ _ _ rfl (by repeat first | apply Has.head | apply Has.tail) (by repeat first | apply Part.done | apply Part.take | apply Part.skip) ?_)
      | (with_reducible refine own_at_store 27 ?_; refine os_1 HO _ rfl rfl _ _ rfl (by repeat first | apply Sto.head | apply Sto.tail | apply Patch.put | apply Patch.skip | apply Patch.done) rfl ?_; intro WB HOn; clear HO; have HO := HOn; clear HOn)
      | (with_reducible refine own_at_box 29 ?_; refine ob_2 HO _ rfl ?_; intro nB WB HOn; (try simp only [List.cons_append, List.nil_append] at HOn); clear HO; have HO := HOn; clear HOn)
      | (with_reducible refine own_at_alloc 29 ?_; refine oa_2 HO ?_; intro nB WB HOn; (try simp only [List.cons_append, List.nil_append] at HOn); clear HO; have HO := HOn; clear HOn)
      | (with_reducible refine own_at_load 29 ?_; first | refine ol_2 HO rfl _ _ rfl (by repeat first | apply Has.head | apply Has.tail) rfl ?_ | refine op_2 HO rfl _ _ _ _ rfl (by repeat first | apply Has.head | apply Has.tail) (by repeat first | apply Part.done | apply Part.take | apply Part.skip) ?_)
      | (with_reducible refine own_at_store 29 ?_; refine os_2 HO _ rfl rfl _ _ rfl (by repeat first | apply Sto.head | apply Sto.tail | apply Patch.put | apply Patch.skip | apply Patch.done) rfl ?_; intro WB HOn; clear HO; have HO := HOn; clear HOn)
      | (with_reducible refine own_at_box 4 ?_; refine sb_0 HO (.bool _) rfl rfl ?_; intro nB WB HOn; (try simp only [List.cons_append, List.nil_append] at HOn); clear HO; have HO := HOn; clear HOn)
      | (with_reducible refine own_at_alloc 4 ?_; refine sa_0 HO ?_; intro nB WB HOn; (try simp only [List.cons_append, List.nil_append] at HOn); clear HO; have HO := HOn; clear HOn)
      | (with_reducible refine own_at_load 4 ?_; refine sl_0 HO rfl _ _ _ _ rfl (by repeat first | apply Has.head | apply Has.tail) rfl ?_)
      | (with_reducible refine own_at_store 4 ?_; refine st_0 HO (.bool _) rfl rfl _ _ rfl (by repeat first | apply Sto.head | apply Sto.tail | apply Patch.put | apply Patch.skip | apply Patch.done) rfl ?_; intro WB HOn; clear HO; have HO := HOn; clear HOn)
      | (with_reducible refine own_at_box 3 ?_; refine sb_1 HO (.int .i64 _) rfl rfl ?_; intro nB WB HOn; (try simp only [List.cons_append, List.nil_append] at HOn); clear HO; have HO := HOn; clear HOn)
      | (with_reducible refine own_at_alloc 3 ?_; refine sa_1 HO ?_; intro nB WB HOn; (try simp only [List.cons_append, List.nil_append] at HOn); clear HO; have HO := HOn; clear HOn)
      | (with_reducible refine own_at_load 3 ?_; refine sl_1 HO rfl _ _ _ _ rfl (by repeat first | apply Has.head | apply Has.tail) rfl ?_)
      | (with_reducible refine own_at_store 3 ?_; refine st_1 HO (.int .i64 _) rfl rfl _ _ rfl (by repeat first | apply Sto.head | apply Sto.tail | apply Patch.put | apply Patch.skip | apply Patch.done) rfl ?_; intro WB HOn; clear HO; have HO := HOn; clear HOn)
      | (with_reducible refine own_at_box 30 ?_; refine sb_2 HO (.slice _ _ _) rfl rfl ?_; intro nB WB HOn; (try simp only [List.cons_append, List.nil_append] at HOn); clear HO; have HO := HOn; clear HOn)
      | (with_reducible refine own_at_alloc 30 ?_; refine sa_2 HO ?_; intro nB WB HOn; (try simp only [List.cons_append, List.nil_append] at HOn); clear HO; have HO := HOn; clear HOn)
      | (with_reducible refine own_at_load 30 ?_; refine sl_2 HO rfl _ _ _ _ rfl (by repeat first | apply Has.head | apply Has.tail) rfl ?_)
      | (with_reducible refine own_at_store 30 ?_; refine st_2 HO (.slice _ _ _) rfl rfl _ _ rfl (by repeat first | apply Sto.head | apply Sto.tail | apply Patch.put | apply Patch.skip | apply Patch.done) rfl ?_; intro WB HOn; clear HO; have HO := HOn; clear HOn))
  obtain ⟨n0, n1, n2, hn0, hn1, hn2⟩ := HO.names3
  subst hn0 hn1 hn2
  refine wp_region_held_drew (S := (fun W => Blk W n0 [i6 d0, uw d1, .bool d2, i6 d3, .bool d4, .bool d5, i6 d6, uw d7, .bool true, .bool d9, .bool d10, i6 d11, i6 d12, i6 d13, i6 d14, uw d15, i6 d16, .bool true, .slice a l c] ∧ True)) (by kernel_rfl) ?_ (fun hHeld => ?_)
  · (try dsimp only); have HOn := HO.drew; clear HO; have HO := HOn; exact ⟨HO.blk 0 _ _ rfl, trivial⟩
  have HOn := HO.drew; clear HO; have HO := HOn; clear HOn
  refine wpAnyH_take (i := 0) (oi := { dst := some 15, op := Op.load 32 (Operand.tmp 1), type := 32, pos := "freeze.go:113", after := #[], guard := none }) (v := .agg (List.toArray [i6 d0, uw d1, .bool d2, i6 d3, .bool d4, .bool d5, i6 d6, uw d7, .bool true, .bool d9, .bool d10, i6 d11, i6 d12, i6 d13, i6 d14, uw d15, i6 d16, .bool true, .slice a l c])) rfl (by kernel_rfl) (by kernel_rfl) (by kernel_rfl) (fun _ _ _ h => h) (yieldsIf_load_mid (by rfl) _ _ rfl n0 0 rfl [i6 d0, uw d1, .bool d2, i6 d3, .bool d4, .bool d5, i6 d6, uw d7, .bool true, .bool d9, .bool d10, i6 d11, i6 d12, i6 d13, i6 d14, uw d15, i6 d16, .bool true, .slice a l c] _ (fun w hSw => blk_range hSw.1 0 _ rfl) Try.underlying32 rfl oinfo_0) (by assumption) ?_
  try simp only [Act.put, List.setIfInBounds_toArray, List.set_cons_zero, List.set_cons_succ]
  refine wpAnyH_take (i := 2) (oi := { dst := some 17, op := Op.fieldAddr 32 (Operand.tmp 1) 4, type := 0, pos := "freeze.go:113", after := #[{ on := 4, ground := Ground.gcOnly Departure.lateStores }], guard := none }) (v := ?_) rfl (by kernel_rfl) (by kernel_rfl) (by kernel_rfl) (fun _ _ _ h => h) (Or.inl ⟨by rfl, ?_⟩) (by assumption) ?_
  rotate_left
  · intro w hSw; (try dsimp only at hSw); go_simp; (try with_reducible rfl)
  try simp only [Act.put, List.setIfInBounds_toArray, List.set_cons_zero, List.set_cons_succ]
  refine wpAnyH_take (i := 3) (oi := { dst := some 18, op := Op.load 29 (Operand.tmp 17), type := 29, pos := "freeze.go:113", after := #[{ on := 2, ground := Ground.data }, { on := 4, ground := Ground.gcOnly Departure.lateStores }], guard := none }) (v := .agg (List.toArray [i6 d11, i6 d12, i6 d13, i6 d14, uw d15, i6 d16])) rfl (by kernel_rfl) (by kernel_rfl) (by kernel_rfl) (fun _ _ _ h => h) (yieldsIf_load_mid (by rfl) _ _ rfl n0 11 rfl [i6 d11, i6 d12, i6 d13, i6 d14, uw d15, i6 d16] _ (fun w hSw => blk_range hSw.1 11 _ rfl) Try.underlying29 rfl oinfo_2) (by assumption) ?_
  try simp only [Act.put, List.setIfInBounds_toArray, List.set_cons_zero, List.set_cons_succ]
  refine wpAnyH_ready (rs := [1]) (by kernel_rfl) (by simp) ?_
  refine AllReadyH.cons (o := { dst := some 16, op := Op.call { callee := Callee.value (Operand.func 10), args := #[Operand.tmp 15], argTypes := #[32] }, type := 32, pos := "freeze.go:113", after := #[{ on := 0, ground := Ground.data }], guard := none }) rfl (fun K hK => ?_) AllReadyH.nil
  go_simp
  go_at_call 10; refine (end_f _ _ _ _ _ _ _ _ _ _ _ _ _ _ _ _ _ _ _ _ _ _).mono ?_; rintro e wc ⟨rfl, hb⟩; have HOn := HO.below hb; clear HO hb; have HO := HOn; clear HOn
  clear hHeld
  refine hK.out _ _ ?_ (fun hHeld => ?_)
  · (try dsimp only); exact ⟨HO.blk 0 _ _ rfl, trivial⟩
  clear hK K
  try simp only [Act.put, List.setIfInBounds_toArray, List.set_cons_zero, List.set_cons_succ]
  refine wpAnyH_ready (rs := [4]) (by kernel_rfl) (by simp) ?_
  refine AllReadyH.cons (o := { dst := none, op := Op.store 32 (Operand.tmp 2) (Operand.tmp 16), type := 0, pos := "freeze.go:113", after := #[{ on := 1, ground := Ground.data }, { on := 1, ground := Ground.chain }, { on := 0, ground := Ground.phase }, { on := 1, ground := Ground.phase }, { on := 2, ground := Ground.textOnly Departure.lateStores }, { on := 3, ground := Ground.textOnly Departure.lateStores }], guard := none }) rfl (fun K hK => ?_) AllReadyH.nil
  rw [if_pos (by rfl)]; refine wp_own_storeS 32 _ _ rfl HO 19 oinfo_0 1 _ 0 _ [i6 0, uw 0, .bool false, i6 0, .bool false, .bool false, i6 0, uw 0, .bool false, .bool false, .bool false, i6 0, i6 0, i6 0, i6 0, uw 0, i6 0, .bool false, .slice a l c] rfl rfl rfl rfl [i6 0, uw 0, .bool false, i6 0, .bool false, .bool false, i6 0, uw 0, .bool false, .bool false, .bool false, i6 0, i6 0, i6 0, i6 0, uw 0, i6 0, .bool false, .slice a l c] rfl (by simp) rfl ?_; intro WB HOn; (try simp only [List.set_cons_zero, List.set_cons_succ] at HOn); clear HO; have HO := HOn; clear HOn
  clear hHeld
  refine hK.out _ _ ?_ (fun hHeld => ?_)
  · (try dsimp only); exact ⟨HO.blk 0 _ _ rfl, trivial⟩
  clear hK K
  try simp only [Act.put, List.setIfInBounds_toArray, List.set_cons_zero, List.set_cons_succ]
  refine wpAnyH_ready (rs := [5]) (by kernel_rfl) (by simp) ?_
  refine AllReadyH.cons (o := { dst := none, op := Op.store 29 (Operand.tmp 3) (Operand.tmp 18), type := 0, pos := "freeze.go:113", after := #[{ on := 3, ground := Ground.data }, { on := 4, ground := Ground.chain }, { on := 0, ground := Ground.phase }, { on := 1, ground := Ground.phase }, { on := 2, ground := Ground.phase }, { on := 3, ground := Ground.phase }, { on := 4, ground := Ground.phase }], guard := none }) rfl (fun K hK => ?_) AllReadyH.nil
  rw [if_pos (by rfl)]; refine wp_own_storeS 29 _ _ rfl HO 6 oinfo_2 2 _ 0 _ [i6 d11, i6 d12, i6 d13, i6 d14, uw d15, i6 d16] rfl rfl rfl rfl [i6 d11, i6 d12, i6 d13, i6 d14, uw d15, i6 d16] rfl (by simp) rfl ?_; intro WB HOn; (try simp only [List.set_cons_zero, List.set_cons_succ] at HOn); clear HO; have HO := HOn; clear HOn
  clear hHeld
  refine hK.out _ _ ?_ (fun hHeld => ?_)
  · (try dsimp only); exact ⟨HO.blk 0 _ _ rfl, trivial⟩
  clear hK K
  try simp only [Act.put, List.setIfInBounds_toArray, List.set_cons_zero, List.set_cons_succ]
  refine wpAnyH_take (i := 6) (oi := { dst := some 4, op := Op.assign (Operand.const (Value.bool true)), type := 4, pos := "freeze.go:113", after := #[{ on := 5, ground := Ground.chain }, { on := 0, ground := Ground.phase }, { on := 1, ground := Ground.phase }, { on := 2, ground := Ground.phase }, { on := 3, ground := Ground.phase }, { on := 4, ground := Ground.phase }, { on := 5, ground := Ground.phase }], guard := none }) (v := ?_) rfl (by kernel_rfl) (by kernel_rfl) (by kernel_rfl) (fun _ _ _ h => h) (Or.inl ⟨by rfl, ?_⟩) (by assumption) ?_
  rotate_left
  · intro w hSw; (try dsimp only at hSw); go_simp; (try with_reducible rfl)
  try simp only [Act.put, List.setIfInBounds_toArray, List.set_cons_zero, List.set_cons_succ]
  refine wpAnyH_done (by kernel_rfl) ?_ _
  go_wp2_with fail
  exact own_ret_cct HO _ _ _ _ _ rfl 1 2 _ _ _ _ _ rfl rfl rfl rfl rfl _ _ Try.underlying32 rfl oinfo_0 Try.underlying29 rfl oinfo_2 rfl ⟨rfl, HO.q⟩
end Go.Proofs.Ytgcedookbblibaa
