/- Layer 39: FreezeReplays' walk. -/
import Derived.Test.YtgcedookbblibaaFz10
import Derived.Test.YtgcedookbblibaaRow3
import Derived.Deep.CutRange
namespace Go.Proofs.Ytgcedookbblibaa
open Go Go.RowKit
set_option linter.unusedSimpArgs false
set_option linter.unusedVariables false
set_option maxRecDepth 100000 in
set_option maxHeartbeats 16000000 in
theorem lreplays39 (g0 g1 : Int) (g2 : Bool) (g3 : Int) (g4 g5 : Bool) (g6 g7 : Int) (i0 i1 i2 i3 i4 i5 : Int) (LA : Option Addr) (n lc : Nat) (ls : List In) (lb lo : Nat) (w : World) (hn : ls.length = n) (hv : RowV (.slice LA n lc) n lb lo) (hr : cellsR inL ls ≠ [] → lb < w.heap.size ∧ w.rangeAt lb lo (cellsR inL ls)) :
    Calls Try.prog 6 #[.agg #[i6 g0, uw g1, .bool g2, i6 g3, .bool g4, .bool g5, i6 g6, uw g7], .agg #[i6 i0, i6 i1, i6 i2, i6 i3, uw i4, i6 i5], .slice LA n lc] w fun e w' => e = .returned (.bool true) ∧ Below w.heap.size w w' := by
  obtain ⟨_, _, hsl, hnc, hcm, hLA⟩ := hv
  simp only [Value.slice.injEq] at hsl
  obtain ⟨rfl, -, rfl⟩ := hsl
  have HN := Lib.hid hn
  have HR0 := Lib.hid hr
  have HLA := Lib.hid hLA
  have HLC := Lib.hid (And.intro hnc hcm)
  clear hn hr hLA hnc hcm
  go_enter Try.func6, Try.ntmps6
  have HO := (Own.nil w).pushArg lb lo (cellsR inL ls) HR0.out
  by_cases hgt : 60 < n
  · have hgi : (60 : Int) < (n : Int) := by omega
    clear hgt
    go_wp2_with (first
      | (with_reducible refine own_at_box 32 ?_; refine ob_0 HO _ rfl ?_; intro nB WB HOn; (try simp only [List.cons_append, List.nil_append] at HOn); clear HO; have HO := HOn; clear HOn)
      | (with_reducible refine own_at_alloc 32 ?_; refine oa_0 HO ?_; intro nB WB HOn; (try simp only [List.cons_append, List.nil_append] at HOn); clear HO; have HO := HOn; clear HOn)
      | (with_reducible refine own_at_load 32 ?_; first | refine ol_0 HO rfl _ _ rfl (by repeat first | apply Has.head | apply Has.tail) rfl ?_ | refine op_0 HO rfl _ _ _ _ rfl (by repeat first | apply Has.head | apply Has.tail) (by repeat first | apply Part.done | apply Part.take | apply Part.skip) ?_)
      | (with_reducible refine own_at_store 32 ?_; refine os_0 HO _ rfl rfl _ _ rfl (by repeat first | apply Sto.head | apply Sto.tail | apply Patch.put | apply Patch.skip | apply Patch.done) rfl ?_; intro WB HOn; clear HO; have HO := HOn; clear HOn)
      | (with_reducible refine own_at_box 27 ?_; refine ob_1 HO _ rfl ?_; intro nB WB HOn; (try simp only [List.cons_append, List.nil_append] at HOn); clear HO; have HO := HOn; clear HOn)
      | (with_reducible refine own_at_alloc 27 ?_; refine oa_1 HO ?_; intro nB WB HOn; (try simp only [List.cons_append, List.nil_append] at HOn); clear HO; have HO := HOn; clear HOn)
      | (with_reducible refine own_at_load 27 ?_; first | refine ol_1 HO rfl _ _ rfl (by repeat first | apply Has.head | apply Has.tail) rfl ?_ | refine op_1 HO rfl _ _ _ _ rfl (by repeat first | apply Has.head | apply Has.tail) (by repeat first | apply Part.done | apply Part.take | apply Part.skip) ?_)
      | (with_reducible refine own_at_store 27 ?_; refine os_1 HO _ rfl rfl _ _ rfl (by repeat first | apply Sto.head | apply Sto.tail | apply Patch.put | apply Patch.skip | apply Patch.done) rfl ?_; intro WB HOn; clear HO; have HO := HOn; clear HOn)
      | (with_reducible refine own_at_box 29 ?_; refine ob_2 HO _ rfl ?_; intro nB WB HOn; (try simp only [List.cons_append, List.nil_append] at HOn); clear HO; have HO := HOn; clear HOn)
      | (with_reducible refine own_at_alloc 29 ?_; refine oa_2 HO ?_; intro nB WB HOn; (try simp only [List.cons_append, List.nil_append] at HOn); clear HO; have HO := HOn; clear HOn)
      | (with_reducible refine own_at_load 29 ?_; first | refine ol_2 HO rfl _ _ rfl (by repeat first | apply Has.head | apply Has.tail) rfl ?_ | refine op_2 HO rfl _ _ _ _ rfl (by repeat first | apply Has.head | apply Has.tail) (by repeat first | apply Part.done | apply Part.take | apply Part.skip) ?_)
      | (with_reducible refine own_at_store 29 ?_; refine os_2 HO _ rfl rfl _ _ rfl (by repeat first | apply Sto.head | apply Sto.tail | apply Patch.put | apply Patch.skip | apply Patch.done) rfl ?_; intro WB HOn; clear HO; have HO := HOn; clear HOn)
      | (with_reducible refine own_at_box 4 ?_; refine sb_0 HO (.bool _) rfl rfl ?_; intro nB WB HOn; (try simp only [List.cons_append, List.nil_append] at HOn); clear HO; have HO := HOn; clear HOn)
      | (with_reducible refine own_at_alloc 4 ?_; refine sa_0 HO ?_; intro nB WB HOn; (try simp only [List.cons_append, List.nil_append] at HOn); clear HO; have HO := HOn; clear HOn)
      | (with_reducible refine own_at_load 4 ?_; refine sl_0 HO rfl _ _ _ _ rfl (by repeat first | apply Has.head | apply Has.tail) rfl ?_)
      | (with_reducible refine own_at_store 4 ?_; refine st_0 HO (.bool _) rfl rfl _ _ rfl (by repeat first | apply Sto.head | apply Sto.tail | apply Patch.put | apply Patch.skip | apply Patch.done) rfl ?_; intro WB HOn; clear HO; have HO := HOn; clear HOn)
      | (with_reducible refine own_at_box 3 ?_; refine sb_1 HO (.int .i64 _) rfl rfl ?_; intro nB WB HOn; (try simp only [List.cons_append, List.nil_append] at HOn); clear HO; have HO := HOn; clear HOn)
      | (with_reducible refine own_at_alloc 3 ?_; refine sa_1 HO ?_; intro nB WB HOn; (try simp only [List.cons_append, List.nil_append] at HOn); clear HO; have HO := HOn; clear HOn)
      | (with_reducible refine own_at_load 3 ?_; refine sl_1 HO rfl _ _ _ _ rfl (by repeat first | apply Has.head | apply Has.tail) rfl ?_)
      | (with_reducible refine own_at_store 3 ?_; refine st_1 HO (.int .i64 _) rfl rfl _ _ rfl (by repeat first | apply Sto.head | apply Sto.tail | apply Patch.put | apply Patch.skip | apply Patch.done) rfl ?_; intro WB HOn; clear HO; have HO := HOn; clear HOn)
      | (with_reducible refine own_at_box 30 ?_; refine sb_2 HO (.slice _ _ _) rfl rfl ?_; intro nB WB HOn; (try simp only [List.cons_append, List.nil_append] at HOn); clear HO; have HO := HOn; clear HOn)
      | (with_reducible refine own_at_alloc 30 ?_; refine sa_2 HO ?_; intro nB WB HOn; (try simp only [List.cons_append, List.nil_append] at HOn); clear HO; have HO := HOn; clear HOn)
      | (with_reducible refine own_at_load 30 ?_; refine sl_2 HO rfl _ _ _ _ rfl (by repeat first | apply Has.head | apply Has.tail) rfl ?_)
      | (with_reducible refine own_at_store 30 ?_; refine st_2 HO (.slice _ _ _) rfl rfl _ _ rfl (by repeat first | apply Sto.head | apply Sto.tail | apply Patch.put | apply Patch.skip | apply Patch.done) rfl ?_; intro WB HOn; clear HO; have HO := HOn; clear HOn)
      | (go_at_call 8; refine (awake39 _).mono ?_; rintro e wc ⟨rfl, hb⟩; have HOn := HO.below hb; clear HO hb; have HO := HOn; clear HOn))
    go_returns
    exact ⟨by first | rfl | (simp; done), HO.q⟩
  · have hgi : ¬ (60 : Int) < (n : Int) := by omega
    go_upto_region 3 with (first
      | (with_reducible refine own_at_box 32 ?_; refine ob_0 HO _ rfl ?_; intro nB WB HOn; (try simp only [List.cons_append, List.nil_append] at HOn); clear HO; have HO := HOn; clear HOn)
      | (with_reducible refine own_at_alloc 32 ?_; refine oa_0 HO ?_; intro nB WB HOn; (try simp only [List.cons_append, List.nil_append] at HOn); clear HO; have HO := HOn; clear HOn)
      | (with_reducible refine own_at_load 32 ?_; first | refine ol_0 HO rfl _ _ rfl (by repeat first | apply Has.head | apply Has.tail) rfl ?_ | refine op_0 HO rfl _ _ _ _ rfl (by repeat first | apply Has.head | apply Has.tail) (by repeat first | apply Part.done | apply Part.take | apply Part.skip) ?_)
      | (with_reducible refine own_at_store 32 ?_; refine os_0 HO _ rfl rfl _ _ rfl (by repeat first | apply Sto.head | apply Sto.tail | apply Patch.put | apply Patch.skip | apply Patch.done) rfl ?_; intro WB HOn; clear HO; have HO := HOn; clear HOn)
      | (with_reducible refine own_at_box 27 ?_; refine ob_1 HO _ rfl ?_; intro nB WB HOn; (try simp only [List.cons_append, List.nil_append] at HOn); clear HO; have HO := HOn; clear HOn)
      | (with_reducible refine own_at_alloc 27 ?_; refine oa_1 HO ?_; intro nB WB HOn; (try simp only [List.cons_append, List.nil_append] at HOn); clear HO; have HO := HOn; clear HOn)
      | (with_reducible refine own_at_load 27 ?_; first | refine ol_1 HO rfl _ _ rfl (by repeat first | apply Has.head | apply Has.tail) rfl ?_ | refine op_1 HO rfl _ _ _ _ rfl (by repeat first | apply Has.head | apply Has.tail) (by repeat first | apply Part.done | apply Part.take | apply Part.skip) ?_)
      | (with_reducible refine own_at_store 27 ?_; refine os_1 HO _ rfl rfl _ _ rfl (by repeat first | apply Sto.head | apply Sto.tail | apply Patch.put | apply Patch.skip | apply Patch.done) rfl ?_; intro WB HOn; clear HO; have HO := HOn; clear HOn)
      | (with_reducible refine own_at_box 29 ?_; refine ob_2 HO _ rfl ?_; intro nB WB HOn; (try simp only [List.cons_append, List.nil_append] at HOn); clear HO; have HO := HOn; clear HOn)
      | (with_reducible refine own_at_alloc 29 ?_; refine oa_2 HO ?_; intro nB WB HOn; (try simp only [List.cons_append, List.nil_append] at HOn); clear HO; have HO := HOn; clear HOn)
      | (with_reducible refine own_at_load 29 ?_; first | refine ol_2 HO rfl _ _ rfl (by repeat first | apply Has.head | apply Has.tail) rfl ?_ | refine op_2 HO rfl _ _ _ _ rfl (by repeat first | apply Has.head | apply Has.tail) (by repeat first | apply Part.done | apply Part.take | apply Part.skip) ?_)
      | (with_reducible refine own_at_store 29 ?_; refine os_2 HO _ rfl rfl _ _ rfl (by repeat first | apply Sto.head | apply Sto.tail | apply Patch.put | apply Patch.skip | apply Patch.done) rfl ?_; intro WB HOn; clear HO; have HO := HOn; clear HOn)
      | (with_reducible refine own_at_box 4 ?_; refine sb_0 HO (.bool _) rfl rfl ?_; intro nB WB HOn; (try simp only [List.cons_append, List.nil_append] at HOn); clear HO; have HO := HOn; clear HOn)
      | (with_reducible refine own_at_alloc 4 ?_; refine sa_0 HO ?_; intro nB WB HOn; (try simp only [List.cons_append, List.nil_append] at HOn); clear HO; have HO := HOn; clear HOn)
      | (with_reducible refine own_at_load 4 ?_; refine sl_0 HO rfl _ _ _ _ rfl (by repeat first | apply Has.head | apply Has.tail) rfl ?_)
      | (with_reducible refine own_at_store 4 ?_; refine st_0 HO (.bool _) rfl rfl _ _ rfl (by repeat first | apply Sto.head | apply Sto.tail | apply Patch.put | apply Patch.skip | apply Patch.done) rfl ?_; intro WB HOn; clear HO; have HO := HOn; clear HOn)
      | (with_reducible refine own_at_box 3 ?_; refine sb_1 HO (.int .i64 _) rfl rfl ?_; intro nB WB HOn; (try simp only [List.cons_append, List.nil_append] at HOn); clear HO; have HO := HOn; clear HOn)
      | (with_reducible refine own_at_alloc 3 ?_; refine sa_1 HO ?_; intro nB WB HOn; (try simp only [List.cons_append, List.nil_append] at HOn); clear HO; have HO := HOn; clear HOn)
      | (with_reducible refine own_at_load 3 ?_; refine sl_1 HO rfl _ _ _ _ rfl (by repeat first | apply Has.head | apply Has.tail) rfl ?_)
      | (with_reducible refine own_at_store 3 ?_; refine st_1 HO (.int .i64 _) rfl rfl _ _ rfl (by repeat first | apply Sto.head | apply Sto.tail | apply Patch.put | apply Patch.skip | apply Patch.done) rfl ?_; intro WB HOn; clear HO; have HO := HOn; clear HOn)
      | (with_reducible refine own_at_box 30 ?_; refine sb_2 HO (.slice _ _ _) rfl rfl ?_; intro nB WB HOn; (try simp only [List.cons_append, List.nil_append] at HOn); clear HO; have HO := HOn; clear HOn)
      | (with_reducible refine own_at_alloc 30 ?_; refine sa_2 HO ?_; intro nB WB HOn; (try simp only [List.cons_append, List.nil_append] at HOn); clear HO; have HO := HOn; clear HOn)
      | (with_reducible refine own_at_load 30 ?_; refine sl_2 HO rfl _ _ _ _ rfl (by repeat first | apply Has.head | apply Has.tail) rfl ?_)
      | (with_reducible refine own_at_store 30 ?_; refine st_2 HO (.slice _ _ _) rfl rfl _ _ rfl (by repeat first | apply Sto.head | apply Sto.tail | apply Patch.put | apply Patch.skip | apply Patch.done) rfl ?_; intro WB HOn; clear HO; have HO := HOn; clear HOn))
    obtain ⟨n0, n1, hn0, hn1⟩ := HO.names2
    subst hn0 hn1
    go_cut [7] from 30 to 35 (fun p wx => ∃ n2, p = .pointer (some ⟨n2, 0, none⟩) ∧ Own w wx [(n0, [i6 g0, uw g1, .bool g2, i6 g3, .bool g4, .bool g5, i6 g6, uw g7]), (n1, [i6 i0, i6 i1, i6 i2, i6 i3, uw i4, i6 i5]), (n2, [i6 g0, uw g1, .bool g2, i6 g3, .bool g4, .bool g5, i6 g6, uw g7, .bool true, .bool true, .bool false, i6 i0, i6 i1, i6 i2, i6 i3, uw i4, i6 i5, .bool true, .slice none 0 0])] [(lb, lo, cellsR inL ls)])
    case first =>
      refine wp_region_held_drew (S := (fun W => Blk W n0 [i6 g0, uw g1, .bool g2, i6 g3, .bool g4, .bool g5, i6 g6, uw g7] ∧ Blk W n1 [i6 i0, i6 i1, i6 i2, i6 i3, uw i4, i6 i5])) (by kernel_rfl) ?_ (fun hHeld => ?_)
      · (try dsimp only); have HOn := HO.drew; clear HO; have HO := HOn; exact ⟨HO.blk 0 _ _ rfl, HO.blk 1 _ _ rfl⟩
      have HOn := HO.drew; clear HO; have HO := HOn; clear HOn
      refine wpAnyH_take (i := 0) (oi := { dst := some 30, op := Op.build 32 #[], type := 32, pos := "law.go:191", after := #[], guard := none }) (v := ?_) rfl (by kernel_rfl) (by kernel_rfl) (by kernel_rfl) (fun _ _ _ h => h) (Or.inl ⟨by rfl, ?_⟩) (by assumption) ?_
      rotate_left
      · intro w hSw; (try dsimp only at hSw); go_simp; (try with_reducible rfl)
      try simp only [Act.put, List.setIfInBounds_toArray, List.set_cons_zero, List.set_cons_succ]
      refine wpAnyH_take (i := 1) (oi := { dst := some 31, op := Op.load 27 (Operand.tmp 3), type := 27, pos := "law.go:191", after := #[], guard := none }) (v := .agg (List.toArray [i6 g0, uw g1, .bool g2, i6 g3, .bool g4, .bool g5, i6 g6, uw g7])) rfl (by kernel_rfl) (by kernel_rfl) (by kernel_rfl) (fun _ _ _ h => h) (yieldsIf_load_mid (by rfl) _ _ rfl n0 0 rfl [i6 g0, uw g1, .bool g2, i6 g3, .bool g4, .bool g5, i6 g6, uw g7] _ (fun w hSw => blk_range hSw.1 0 _ rfl) Try.underlying27 rfl oinfo_1) (by assumption) ?_
      try simp only [Act.put, List.setIfInBounds_toArray, List.set_cons_zero, List.set_cons_succ]
      refine wpAnyH_take (i := 3) (oi := { dst := some 33, op := Op.load 29 (Operand.tmp 4), type := 29, pos := "law.go:191", after := #[], guard := none }) (v := .agg (List.toArray [i6 i0, i6 i1, i6 i2, i6 i3, uw i4, i6 i5])) rfl (by kernel_rfl) (by kernel_rfl) (by kernel_rfl) (fun _ _ _ h => h) (yieldsIf_load_mid (by rfl) _ _ rfl n1 0 rfl [i6 i0, i6 i1, i6 i2, i6 i3, uw i4, i6 i5] _ (fun w hSw => blk_range hSw.2 0 _ rfl) Try.underlying29 rfl oinfo_2) (by assumption) ?_
      try simp only [Act.put, List.setIfInBounds_toArray, List.set_cons_zero, List.set_cons_succ]
      refine wpAnyH_ready (rs := [2, 5]) (by kernel_rfl) (by simp) ?_
      refine AllReadyH.cons (o := { dst := some 32, op := Op.call { callee := Callee.value (Operand.func 15), args := #[Operand.tmp 30, Operand.tmp 31, Operand.const (Value.bool true)], argTypes := #[32, 27, 4] }, type := 32, pos := "law.go:191", after := #[{ on := 0, ground := Ground.data }, { on := 1, ground := Ground.data }], guard := none }) rfl (fun K hK => ?_) (AllReadyH.cons (o := { dst := some 7, op := Op.alloc 32, type := 0, pos := "law.go:191", after := #[], guard := none }) rfl (fun K hK => ?_) AllReadyH.nil)
      · go_simp
        go_at_call 15; refine (begin_f _ _ _ _ _ _ _ _ _ _ _ _ _ _ _ _ _ _ _ _ _ _ _ _ _ _ _ _ _ _ _).mono ?_; rintro e wc ⟨rfl, hb⟩; have HOn := HO.below hb; clear HO hb; have HO := HOn; clear HOn
        clear hHeld
        refine hK.out _ _ ?_ (fun hHeld => ?_)
        · (try dsimp only); exact ⟨HO.blk 0 _ _ rfl, HO.blk 1 _ _ rfl⟩
        clear hK K
        try simp only [Act.put, List.setIfInBounds_toArray, List.set_cons_zero, List.set_cons_succ]
        refine wpAnyH_ready (rs := [4, 5]) (by kernel_rfl) (by simp) ?_
        refine AllReadyH.cons (o := { dst := some 34, op := Op.call { callee := Callee.value (Operand.func 16), args := #[Operand.tmp 32, Operand.tmp 33], argTypes := #[32, 29] }, type := 32, pos := "law.go:191", after := #[{ on := 2, ground := Ground.data }, { on := 3, ground := Ground.data }, { on := 2, ground := Ground.chain }], guard := none }) rfl (fun K hK => ?_) (AllReadyH.cons (o := { dst := some 7, op := Op.alloc 32, type := 0, pos := "law.go:191", after := #[], guard := none }) rfl (fun K hK => ?_) AllReadyH.nil)
        · go_simp
          go_at_call 16; refine (hold_f _ _ _ _ _ _ _ _ _ _ _ _ _ _ _ _ _ _ _ _ _ _ _ _ _ _ _ _).mono ?_; rintro e wc ⟨rfl, hb⟩; have HOn := HO.below hb; clear HO hb; have HO := HOn; clear HOn
          clear hHeld
          refine hK.out _ _ ?_ (fun hHeld => ?_)
          · (try dsimp only); exact ⟨HO.blk 0 _ _ rfl, HO.blk 1 _ _ rfl⟩
          clear hK K
          try simp only [Act.put, List.setIfInBounds_toArray, List.set_cons_zero, List.set_cons_succ]
          refine wpAnyH_ready (rs := [5]) (by kernel_rfl) (by simp) ?_
          refine AllReadyH.cons (o := { dst := some 7, op := Op.alloc 32, type := 0, pos := "law.go:191", after := #[], guard := none }) rfl (fun K hK => ?_) AllReadyH.nil
          rw [if_pos (by rfl)]; refine wp_own_allocS 32 rfl HO _ ozero_0 ?_; intro nr2 WB HOn; (try simp only [List.cons_append, List.nil_append] at HOn); clear HO; have HO := HOn; clear HOn
          clear hHeld
          refine hK.out _ _ ?_ (fun hHeld => ?_)
          · (try dsimp only); exact ⟨HO.blk 0 _ _ rfl, HO.blk 1 _ _ rfl⟩
          clear hK K
          try simp only [Act.put, List.setIfInBounds_toArray, List.set_cons_zero, List.set_cons_succ]
          refine wpAnyH_ready (rs := [6]) (by kernel_rfl) (by simp) ?_
          refine AllReadyH.cons (o := { dst := none, op := Op.store 32 (Operand.tmp 7) (Operand.tmp 34), type := 0, pos := "law.go:191", after := #[{ on := 5, ground := Ground.data }, { on := 4, ground := Ground.data }, { on := 4, ground := Ground.chain }, { on := 0, ground := Ground.phase }, { on := 1, ground := Ground.phase }, { on := 2, ground := Ground.phase }, { on := 3, ground := Ground.phase }, { on := 4, ground := Ground.phase }, { on := 5, ground := Ground.phase }], guard := none }) rfl (fun K hK => ?_) AllReadyH.nil
          rw [if_pos (by rfl)]; refine wp_own_storeS 32 _ _ rfl HO 19 oinfo_0 2 _ 0 _ [i6 g0, uw g1, .bool g2, i6 g3, .bool g4, .bool g5, i6 g6, uw g7, .bool true, .bool true, .bool false, i6 i0, i6 i1, i6 i2, i6 i3, uw i4, i6 i5, .bool true, .slice none 0 0] rfl rfl rfl rfl [i6 g0, uw g1, .bool g2, i6 g3, .bool g4, .bool g5, i6 g6, uw g7, .bool true, .bool true, .bool false, i6 i0, i6 i1, i6 i2, i6 i3, uw i4, i6 i5, .bool true, .slice none 0 0] rfl (by simp) rfl ?_; intro WB HOn; (try simp only [List.set_cons_zero, List.set_cons_succ] at HOn); clear HO; have HO := HOn; clear HOn
          clear hHeld
          refine hK.out _ _ ?_ (fun hHeld => ?_)
          · (try dsimp only); exact ⟨HO.blk 0 _ _ rfl, HO.blk 1 _ _ rfl⟩
          clear hK K
          try simp only [Act.put, List.setIfInBounds_toArray, List.set_cons_zero, List.set_cons_succ]
          refine wpAnyH_done (by kernel_rfl) ?_ _
          go_wp2_with fail
          go_meet
          exact ⟨_, rfl, HO⟩
        · rw [if_pos (by rfl)]; refine wp_own_allocS 32 rfl HO _ ozero_0 ?_; intro nr2 WB HOn; (try simp only [List.cons_append, List.nil_append] at HOn); clear HO; have HO := HOn; clear HOn
          clear hHeld
          refine hK.out _ _ ?_ (fun hHeld => ?_)
          · (try dsimp only); exact ⟨HO.blk 0 _ _ rfl, HO.blk 1 _ _ rfl⟩
          clear hK K
          try simp only [Act.put, List.setIfInBounds_toArray, List.set_cons_zero, List.set_cons_succ]
          refine wpAnyH_ready (rs := [4]) (by kernel_rfl) (by simp) ?_
          refine AllReadyH.cons (o := { dst := some 34, op := Op.call { callee := Callee.value (Operand.func 16), args := #[Operand.tmp 32, Operand.tmp 33], argTypes := #[32, 29] }, type := 32, pos := "law.go:191", after := #[{ on := 2, ground := Ground.data }, { on := 3, ground := Ground.data }, { on := 2, ground := Ground.chain }], guard := none }) rfl (fun K hK => ?_) AllReadyH.nil
          go_simp
          go_at_call 16; refine (hold_f _ _ _ _ _ _ _ _ _ _ _ _ _ _ _ _ _ _ _ _ _ _ _ _ _ _ _ _).mono ?_; rintro e wc ⟨rfl, hb⟩; have HOn := HO.below hb; clear HO hb; have HO := HOn; clear HOn
          clear hHeld
          refine hK.out _ _ ?_ (fun hHeld => ?_)
          · (try dsimp only); exact ⟨HO.blk 0 _ _ rfl, HO.blk 1 _ _ rfl⟩
          clear hK K
          try simp only [Act.put, List.setIfInBounds_toArray, List.set_cons_zero, List.set_cons_succ]
          refine wpAnyH_ready (rs := [6]) (by kernel_rfl) (by simp) ?_
          refine AllReadyH.cons (o := { dst := none, op := Op.store 32 (Operand.tmp 7) (Operand.tmp 34), type := 0, pos := "law.go:191", after := #[{ on := 5, ground := Ground.data }, { on := 4, ground := Ground.data }, { on := 4, ground := Ground.chain }, { on := 0, ground := Ground.phase }, { on := 1, ground := Ground.phase }, { on := 2, ground := Ground.phase }, { on := 3, ground := Ground.phase }, { on := 4, ground := Ground.phase }, { on := 5, ground := Ground.phase }], guard := none }) rfl (fun K hK => ?_) AllReadyH.nil
          rw [if_pos (by rfl)]; refine wp_own_storeS 32 _ _ rfl HO 19 oinfo_0 2 _ 0 _ [i6 g0, uw g1, .bool g2, i6 g3, .bool g4, .bool g5, i6 g6, uw g7, .bool true, .bool true, .bool false, i6 i0, i6 i1, i6 i2, i6 i3, uw i4, i6 i5, .bool true, .slice none 0 0] rfl rfl rfl rfl [i6 g0, uw g1, .bool g2, i6 g3, .bool g4, .bool g5, i6 g6, uw g7, .bool true, .bool true, .bool false, i6 i0, i6 i1, i6 i2, i6 i3, uw i4, i6 i5, .bool true, .slice none 0 0] rfl (by simp) rfl ?_; intro WB HOn; (try simp only [List.set_cons_zero, List.set_cons_succ] at HOn); clear HO; have HO := HOn; clear HOn
          clear hHeld
          refine hK.out _ _ ?_ (fun hHeld => ?_)
          · (try dsimp only); exact ⟨HO.blk 0 _ _ rfl, HO.blk 1 _ _ rfl⟩
          clear hK K
          try simp only [Act.put, List.setIfInBounds_toArray, List.set_cons_zero, List.set_cons_succ]
          refine wpAnyH_done (by kernel_rfl) ?_ _
          go_wp2_with fail
          go_meet
          exact ⟨_, rfl, HO⟩
      · rw [if_pos (by rfl)]; refine wp_own_allocS 32 rfl HO _ ozero_0 ?_; intro nr2 WB HOn; (try simp only [List.cons_append, List.nil_append] at HOn); clear HO; have HO := HOn; clear HOn
        clear hHeld
        refine hK.out _ _ ?_ (fun hHeld => ?_)
        · (try dsimp only); exact ⟨HO.blk 0 _ _ rfl, HO.blk 1 _ _ rfl⟩
        clear hK K
        try simp only [Act.put, List.setIfInBounds_toArray, List.set_cons_zero, List.set_cons_succ]
        refine wpAnyH_ready (rs := [2]) (by kernel_rfl) (by simp) ?_
        refine AllReadyH.cons (o := { dst := some 32, op := Op.call { callee := Callee.value (Operand.func 15), args := #[Operand.tmp 30, Operand.tmp 31, Operand.const (Value.bool true)], argTypes := #[32, 27, 4] }, type := 32, pos := "law.go:191", after := #[{ on := 0, ground := Ground.data }, { on := 1, ground := Ground.data }], guard := none }) rfl (fun K hK => ?_) AllReadyH.nil
        go_simp
        go_at_call 15; refine (begin_f _ _ _ _ _ _ _ _ _ _ _ _ _ _ _ _ _ _ _ _ _ _ _ _ _ _ _ _ _ _ _).mono ?_; rintro e wc ⟨rfl, hb⟩; have HOn := HO.below hb; clear HO hb; have HO := HOn; clear HOn
        clear hHeld
        refine hK.out _ _ ?_ (fun hHeld => ?_)
        · (try dsimp only); exact ⟨HO.blk 0 _ _ rfl, HO.blk 1 _ _ rfl⟩
        clear hK K
        try simp only [Act.put, List.setIfInBounds_toArray, List.set_cons_zero, List.set_cons_succ]
        refine wpAnyH_ready (rs := [4]) (by kernel_rfl) (by simp) ?_
        refine AllReadyH.cons (o := { dst := some 34, op := Op.call { callee := Callee.value (Operand.func 16), args := #[Operand.tmp 32, Operand.tmp 33], argTypes := #[32, 29] }, type := 32, pos := "law.go:191", after := #[{ on := 2, ground := Ground.data }, { on := 3, ground := Ground.data }, { on := 2, ground := Ground.chain }], guard := none }) rfl (fun K hK => ?_) AllReadyH.nil
        go_simp
        go_at_call 16; refine (hold_f _ _ _ _ _ _ _ _ _ _ _ _ _ _ _ _ _ _ _ _ _ _ _ _ _ _ _ _).mono ?_; rintro e wc ⟨rfl, hb⟩; have HOn := HO.below hb; clear HO hb; have HO := HOn; clear HOn
        clear hHeld
        refine hK.out _ _ ?_ (fun hHeld => ?_)
        · (try dsimp only); exact ⟨HO.blk 0 _ _ rfl, HO.blk 1 _ _ rfl⟩
        clear hK K
        try simp only [Act.put, List.setIfInBounds_toArray, List.set_cons_zero, List.set_cons_succ]
        refine wpAnyH_ready (rs := [6]) (by kernel_rfl) (by simp) ?_
        refine AllReadyH.cons (o := { dst := none, op := Op.store 32 (Operand.tmp 7) (Operand.tmp 34), type := 0, pos := "law.go:191", after := #[{ on := 5, ground := Ground.data }, { on := 4, ground := Ground.data }, { on := 4, ground := Ground.chain }, { on := 0, ground := Ground.phase }, { on := 1, ground := Ground.phase }, { on := 2, ground := Ground.phase }, { on := 3, ground := Ground.phase }, { on := 4, ground := Ground.phase }, { on := 5, ground := Ground.phase }], guard := none }) rfl (fun K hK => ?_) AllReadyH.nil
        rw [if_pos (by rfl)]; refine wp_own_storeS 32 _ _ rfl HO 19 oinfo_0 2 _ 0 _ [i6 g0, uw g1, .bool g2, i6 g3, .bool g4, .bool g5, i6 g6, uw g7, .bool true, .bool true, .bool false, i6 i0, i6 i1, i6 i2, i6 i3, uw i4, i6 i5, .bool true, .slice none 0 0] rfl rfl rfl rfl [i6 g0, uw g1, .bool g2, i6 g3, .bool g4, .bool g5, i6 g6, uw g7, .bool true, .bool true, .bool false, i6 i0, i6 i1, i6 i2, i6 i3, uw i4, i6 i5, .bool true, .slice none 0 0] rfl (by simp) rfl ?_; intro WB HOn; (try simp only [List.set_cons_zero, List.set_cons_succ] at HOn); clear HO; have HO := HOn; clear HOn
        clear hHeld
        refine hK.out _ _ ?_ (fun hHeld => ?_)
        · (try dsimp only); exact ⟨HO.blk 0 _ _ rfl, HO.blk 1 _ _ rfl⟩
        clear hK K
        try simp only [Act.put, List.setIfInBounds_toArray, List.set_cons_zero, List.set_cons_succ]
        refine wpAnyH_done (by kernel_rfl) ?_ _
        go_wp2_with fail
        go_meet
        exact ⟨_, rfl, HO⟩
    case rest =>
      clear HO
      obtain ⟨n2, rfl, HO⟩ := hcut
      obtain ⟨W3, rfl⟩ : ∃ W : World, W = wc := ⟨_, rfl⟩
      go_wp2_with fail
      go_loopw [37] (fun i wr => ∃ (k c b : Nat) (A : Option Addr), i = .int .i64 k ∧ k ≤ n ∧ Hid ((ls.take k).length = k) ∧ Hid (k ≤ c ∧ c ≤ maxLen) ∧ Hid (0 < k → A = some ⟨b, 0, none⟩) ∧ Hid (Own w wr [(n0, [i6 g0, uw g1, .bool g2, i6 g3, .bool g4, .bool g5, i6 g6, uw g7]), (n1, [i6 i0, i6 i1, i6 i2, i6 i3, uw i4, i6 i5]), (n2, [i6 g0, uw g1, .bool g2, i6 g3, .bool g4, .bool g5, i6 g6, uw g7, .bool true, .bool true, .bool false, i6 i0, i6 i1, i6 i2, i6 i3, uw i4, i6 i5, .bool true, .slice A k c])] [(b, 0, cellsR inL (ls.take k)), (lb, lo, cellsR inL ls)])) (fun i _ => n - (intOf i).toNat)
      case atStart => exact ⟨0, 0, 0, none, rfl, by omega, Lib.hid rfl, Lib.hid ⟨by omega, by decide⟩, Lib.hid (fun h => by omega), Lib.hid (HO.push 0 0 [] (fun h => absurd rfl h))⟩
      case round =>
        clear HO
        obtain ⟨k, c, b, A, rfl, hk, HW, HC, HA, HOH⟩ := hrel
        have HO := HOH.out
        clear HOH
        by_cases hlt : k < n
        · have hki : (k : Int) < n := by omega
          obtain ⟨x, hx⟩ : ∃ x, ls[k]? = some x := ⟨_, List.getElem?_eq_getElem (by rw [HN.out]; exact hlt)⟩
          obtain rfl : LA = some ⟨lb, lo, none⟩ := HLA.out (by omega)
          obtain ⟨x0, x1, x2, x3, x4, x5⟩ := x
          have HX := Lib.hid hx
          have htk : ls.take (k + 1) = ls.take k ++ [⟨x0, x1, x2, x3, x4, x5⟩] := by rw [List.take_add_one, hx]; rfl
          have HTK := Lib.hid htk
          clear hx htk
          go_wp2_with (first
      | (with_reducible refine own_at_box 32 ?_; refine ob_0 HO _ rfl ?_; intro nB WB HOn; (try simp only [List.cons_append, List.nil_append] at HOn); clear HO; have HO := HOn; clear HOn)
      | (with_reducible refine own_at_alloc 32 ?_; refine oa_0 HO ?_; intro nB WB HOn; (try simp only [List.cons_append, List.nil_append] at HOn); clear HO; have HO := HOn; clear HOn)
      | (with_reducible refine own_at_load 32 ?_; first | refine ol_0 HO rfl _ _ rfl (by repeat first | apply Has.head | apply Has.tail) rfl ?_ | refine op_0 HO rfl _ _ _ _ rfl (by repeat first | apply Has.head | apply Has.tail) (by repeat first | apply Part.done | apply Part.take | apply Part.skip) ?_)
      | (with_reducible refine own_at_store 32 ?_; refine os_0 HO _ rfl rfl _ _ rfl (by repeat first | apply Sto.head | apply Sto.tail | apply Patch.put | apply Patch.skip | apply Patch.done) rfl ?_; intro WB HOn; clear HO; have HO := HOn; clear HOn)
      | (with_reducible refine own_at_box 27 ?_; refine ob_1 HO _ rfl ?_; intro nB WB HOn; (try simp only [List.cons_append, List.nil_append] at HOn); clear HO; have HO := HOn; clear HOn)
      | (with_reducible refine own_at_alloc 27 ?_; refine oa_1 HO ?_; intro nB WB HOn; (try simp only [List.cons_append, List.nil_append] at HOn); clear HO; have HO := HOn; clear HOn)
      | (with_reducible refine own_at_load 27 ?_; first | refine ol_1 HO rfl _ _ rfl (by repeat first | apply Has.head | apply Has.tail) rfl ?_ | refine op_1 HO rfl _ _ _ _ rfl (by repeat first | apply Has.head | apply Has.tail) (by repeat first | apply Part.done | apply Part.take | apply Part.skip) ?_)
      | (with_reducible refine own_at_store 27 ?_; refine os_1 HO _ rfl rfl _ _ rfl (by repeat first | apply Sto.head | apply Sto.tail | apply Patch.put | apply Patch.skip | apply Patch.done) rfl ?_; intro WB HOn; clear HO; have HO := HOn; clear HOn)
      | (with_reducible refine own_at_box 29 ?_; refine ob_2 HO _ rfl ?_; intro nB WB HOn; (try simp only [List.cons_append, List.nil_append] at HOn); clear HO; have HO := HOn; clear HOn)
      | (with_reducible refine own_at_alloc 29 ?_; refine oa_2 HO ?_; intro nB WB HOn; (try simp only [List.cons_append, List.nil_append] at HOn); clear HO; have HO := HOn; clear HOn)
      | (with_reducible refine own_at_load 29 ?_; first | refine ol_2 HO rfl _ _ rfl (by repeat first | apply Has.head | apply Has.tail) rfl ?_ | refine op_2 HO rfl _ _ _ _ rfl (by repeat first | apply Has.head | apply Has.tail) (by repeat first | apply Part.done | apply Part.take | apply Part.skip) ?_)
      | (with_reducible refine own_at_store 29 ?_; refine os_2 HO _ rfl rfl _ _ rfl (by repeat first | apply Sto.head | apply Sto.tail | apply Patch.put | apply Patch.skip | apply Patch.done) rfl ?_; intro WB HOn; clear HO; have HO := HOn; clear HOn)
      | (with_reducible refine own_at_box 4 ?_; refine sb_0 HO (.bool _) rfl rfl ?_; intro nB WB HOn; (try simp only [List.cons_append, List.nil_append] at HOn); clear HO; have HO := HOn; clear HOn)
      | (with_reducible refine own_at_alloc 4 ?_; refine sa_0 HO ?_; intro nB WB HOn; (try simp only [List.cons_append, List.nil_append] at HOn); clear HO; have HO := HOn; clear HOn)
      | (with_reducible refine own_at_load 4 ?_; refine sl_0 HO rfl _ _ _ _ rfl (by repeat first | apply Has.head | apply Has.tail) rfl ?_)
      | (with_reducible refine own_at_store 4 ?_; refine st_0 HO (.bool _) rfl rfl _ _ rfl (by repeat first | apply Sto.head | apply Sto.tail | apply Patch.put | apply Patch.skip | apply Patch.done) rfl ?_; intro WB HOn; clear HO; have HO := HOn; clear HOn)
      | (with_reducible refine own_at_box 3 ?_; refine sb_1 HO (.int .i64 _) rfl rfl ?_; intro nB WB HOn; (try simp only [List.cons_append, List.nil_append] at HOn); clear HO; have HO := HOn; clear HOn)
      | (with_reducible refine own_at_alloc 3 ?_; refine sa_1 HO ?_; intro nB WB HOn; (try simp only [List.cons_append, List.nil_append] at HOn); clear HO; have HO := HOn; clear HOn)
      | (with_reducible refine own_at_load 3 ?_; refine sl_1 HO rfl _ _ _ _ rfl (by repeat first | apply Has.head | apply Has.tail) rfl ?_)
      | (with_reducible refine own_at_store 3 ?_; refine st_1 HO (.int .i64 _) rfl rfl _ _ rfl (by repeat first | apply Sto.head | apply Sto.tail | apply Patch.put | apply Patch.skip | apply Patch.done) rfl ?_; intro WB HOn; clear HO; have HO := HOn; clear HOn)
      | (with_reducible refine own_at_box 30 ?_; refine sb_2 HO (.slice _ _ _) rfl rfl ?_; intro nB WB HOn; (try simp only [List.cons_append, List.nil_append] at HOn); clear HO; have HO := HOn; clear HOn)
      | (with_reducible refine own_at_alloc 30 ?_; refine sa_2 HO ?_; intro nB WB HOn; (try simp only [List.cons_append, List.nil_append] at HOn); clear HO; have HO := HOn; clear HOn)
      | (with_reducible refine own_at_load 30 ?_; refine sl_2 HO rfl _ _ _ _ rfl (by repeat first | apply Has.head | apply Has.tail) rfl ?_)
      | (with_reducible refine own_at_store 30 ?_; refine st_2 HO (.slice _ _ _) rfl rfl _ _ rfl (by repeat first | apply Sto.head | apply Sto.tail | apply Patch.put | apply Patch.skip | apply Patch.done) rfl ?_; intro WB HOn; clear HO; have HO := HOn; clear HOn)
      | (with_reducible refine own_at_load 29 ?_; refine wpList_own_elem rfl 29 _ rfl HO _ Try.underlying29 rfl oinfo_2 1 _ _ ls rfl inL_len (by decide) k _ HX.out rfl _ rfl ?_)
      | (go_at_call 9; refine (feed_at _ _ _ _ _ _ _ _ _ _ _ _ _ _ _ _ _ _ A k c (ls.take k) b 0 _ _ _ _ _ _ _ HW.out HC.out.1 HC.out.2 HA.out (fun hne => ⟨(HO.rng 0 _ _ _ rfl hne).1, (HO.rng 0 _ _ _ rfl hne).2.1⟩) (by omega)).mono ?_; rintro e wc ⟨g1, cg1, rfl, hc1, hm1, hr1, hb⟩; have HOn := (HO.pushNew hb g1 0 _ (fun _ => hr1)).skip1; clear HO hb; have HO := HOn; clear HOn))
          go_roundw
          case rel => exact ⟨k + 1, cg1, g1, some ⟨g1, 0, none⟩, by go_num, by omega, Lib.hid (by rw [List.length_take, HN.out]; omega), Lib.hid ⟨hc1, hm1⟩, Lib.hid (fun _ => rfl), Lib.hid (by rw [HTK.out]; exact HO.takeL 3)⟩
          case measure => simp [intOf] <;> omega
        · obtain rfl : k = n := by omega
          have hlt2 : ls.take k = ls := by rw [← HN.out]; exact List.take_length
          rw [hlt2] at HO HW
          clear hlt2
          go_upto_region 12 with (first
      | (with_reducible refine own_at_box 32 ?_; refine ob_0 HO _ rfl ?_; intro nB WB HOn; (try simp only [List.cons_append, List.nil_append] at HOn); clear HO; have HO := HOn; clear HOn)
      | (with_reducible refine own_at_alloc 32 ?_; refine oa_0 HO ?_; intro nB WB HOn; (try simp only [List.cons_append, List.nil_append] at HOn); clear HO; have HO := HOn; clear HOn)
      | (with_reducible refine own_at_load 32 ?_; first | refine ol_0 HO rfl _ _ rfl (by repeat first | apply Has.head | apply Has.tail) rfl ?_ | refine op_0 HO rfl _ _ _ _ rfl (by repeat first | apply Has.head | apply Has.tail) (by repeat first | apply Part.done | apply Part.take | apply Part.skip) ?_)
      | (with_reducible refine own_at_store 32 ?_; refine os_0 HO _ rfl rfl _ _ rfl (by repeat first | apply Sto.head | apply Sto.tail | apply Patch.put | apply Patch.skip | apply Patch.done) rfl ?_; intro WB HOn; clear HO; have HO := HOn; clear HOn)
      | (with_reducible refine own_at_box 27 ?_; refine ob_1 HO _ rfl ?_; intro nB WB HOn; (try simp only [List.cons_append, List.nil_append] at HOn); clear HO; have HO := HOn; clear HOn)
      | (with_reducible refine own_at_alloc 27 ?_; refine oa_1 HO ?_; intro nB WB HOn; (try simp only [List.cons_append, List.nil_append] at HOn); clear HO; have HO := HOn; clear HOn)
      | (with_reducible refine own_at_load 27 ?_; first | refine ol_1 HO rfl _ _ rfl (by repeat first | apply Has.head | apply Has.tail) rfl ?_ | refine op_1 HO rfl _ _ _ _ rfl (by repeat first | apply Has.head | apply Has.tail) (by repeat first | apply Part.done | apply Part.take | apply Part.skip) ?_)
      | (with_reducible refine own_at_store 27 ?_; refine os_1 HO _ rfl rfl _ _ rfl (by repeat first | apply Sto.head | apply Sto.tail | apply Patch.put | apply Patch.skip | apply Patch.done) rfl ?_; intro WB HOn; clear HO; have HO := HOn; clear HOn)
      | (with_reducible refine own_at_box 29 ?_; refine ob_2 HO _ rfl ?_; intro nB WB HOn; (try simp only [List.cons_append, List.nil_append] at HOn); clear HO; have HO := HOn; clear HOn)
      | (with_reducible refine own_at_alloc 29 ?_; refine oa_2 HO ?_; intro nB WB HOn; (try simp only [List.cons_append, List.nil_append] at HOn); clear HO; have HO := HOn; clear HOn)
      | (with_reducible refine own_at_load 29 ?_; first | refine ol_2 HO rfl _ _ rfl (by repeat first | apply Has.head | apply Has.tail) rfl ?_ | refine op_2 HO rfl _ _ _ _ rfl (by repeat first | apply Has.head | apply Has.tail) (by repeat first | apply Part.done | apply Part.take | apply Part.skip) ?_)
      | (with_reducible refine own_at_store 29 ?_; refine os_2 HO _ rfl rfl _ _ rfl (by repeat first | apply Sto.head | apply Sto.tail | apply Patch.put | apply Patch.skip | apply Patch.done) rfl ?_; intro WB HOn; clear HO; have HO := HOn; clear HOn)
      | (with_reducible refine own_at_box 4 ?_; refine sb_0 HO (.bool _) rfl rfl ?_; intro nB WB HOn; (try simp only [List.cons_append, List.nil_append] at HOn); clear HO; have HO := HOn; clear HOn)
      | (with_reducible refine own_at_alloc 4 ?_; refine sa_0 HO ?_; intro nB WB HOn; (try simp only [List.cons_append, List.nil_append] at HOn); clear HO; have HO := HOn; clear HOn)
      | (with_reducible refine own_at_load 4 ?_; refine sl_0 HO rfl _ _ _ _ rfl (by repeat first | apply Has.head | apply Has.tail) rfl ?_)
      | (with_reducible refine own_at_store 4 ?_; refine st_0 HO (.bool _) rfl rfl _ _ rfl (by repeat first | apply Sto.head | apply Sto.tail | apply Patch.put | apply Patch.skip | apply Patch.done) rfl ?_; intro WB HOn; clear HO; have HO := HOn; clear HOn)
      | (with_reducible refine own_at_box 3 ?_; refine sb_1 HO (.int .i64 _) rfl rfl ?_; intro nB WB HOn; (try simp only [List.cons_append, List.nil_append] at HOn); clear HO; have HO := HOn; clear HOn)
      | (with_reducible refine own_at_alloc 3 ?_; refine sa_1 HO ?_; intro nB WB HOn; (try simp only [List.cons_append, List.nil_append] at HOn); clear HO; have HO := HOn; clear HOn)
      | (with_reducible refine own_at_load 3 ?_; refine sl_1 HO rfl _ _ _ _ rfl (by repeat first | apply Has.head | apply Has.tail) rfl ?_)
      | (with_reducible refine own_at_store 3 ?_; refine st_1 HO (.int .i64 _) rfl rfl _ _ rfl (by repeat first | apply Sto.head | apply Sto.tail | apply Patch.put | apply Patch.skip | apply Patch.done) rfl ?_; intro WB HOn; clear HO; have HO := HOn; clear HOn)
      | (with_reducible refine own_at_box 30 ?_; refine sb_2 HO (.slice _ _ _) rfl rfl ?_; intro nB WB HOn; (try simp only [List.cons_append, List.nil_append] at HOn); clear HO; have HO := HOn; clear HOn)
      | (with_reducible refine own_at_alloc 30 ?_; refine sa_2 HO ?_; intro nB WB HOn; (try simp only [List.cons_append, List.nil_append] at HOn); clear HO; have HO := HOn; clear HOn)
      | (with_reducible refine own_at_load 30 ?_; refine sl_2 HO rfl _ _ _ _ rfl (by repeat first | apply Has.head | apply Has.tail) rfl ?_)
      | (with_reducible refine own_at_store 30 ?_; refine st_2 HO (.slice _ _ _) rfl rfl _ _ rfl (by repeat first | apply Sto.head | apply Sto.tail | apply Patch.put | apply Patch.skip | apply Patch.done) rfl ?_; intro WB HOn; clear HO; have HO := HOn; clear HOn)
      | (go_at_call 20; refine (active_f _ _ _ _ _ _ _ _ _ _ _ _ _ _ _ _ _ _ _ _ _ _).mono ?_; rintro e wc ⟨rfl, hb⟩; have HOn := HO.below hb; clear HO hb; have HO := HOn; clear HOn))
          go_upto_region 13 with (first
      | (with_reducible refine own_at_box 32 ?_; refine ob_0 HO _ rfl ?_; intro nB WB HOn; (try simp only [List.cons_append, List.nil_append] at HOn); clear HO; have HO := HOn; clear HOn)
      | (with_reducible refine own_at_alloc 32 ?_; refine oa_0 HO ?_; intro nB WB HOn; (try simp only [List.cons_append, List.nil_append] at HOn); clear HO; have HO := HOn; clear HOn)
      | (with_reducible refine own_at_load 32 ?_; first | refine ol_0 HO rfl _ _ rfl (by repeat first | apply Has.head | apply Has.tail) rfl ?_ | refine op_0 HO rfl _ _ _ _ rfl (by repeat first | apply Has.head | apply Has.tail) (by repeat first | apply Part.done | apply Part.take | apply Part.skip) ?_)
      | (with_reducible refine own_at_store 32 ?_; refine os_0 HO _ rfl rfl _ _ rfl (by repeat first | apply Sto.head | apply Sto.tail | apply Patch.put | apply Patch.skip | apply Patch.done) rfl ?_; intro WB HOn; clear HO; have HO := HOn; clear HOn)
      | (with_reducible refine own_at_box 27 ?_; refine ob_1 HO _ rfl ?_; intro nB WB HOn; (try simp only [List.cons_append, List.nil_append] at HOn); clear HO; have HO := HOn; clear HOn)
      | (with_reducible refine own_at_alloc 27 ?_; refine oa_1 HO ?_; intro nB WB HOn; (try simp only [List.cons_append, List.nil_append] at HOn); clear HO; have HO := HOn; clear HOn)
      | (with_reducible refine own_at_load 27 ?_; first | refine ol_1 HO rfl _ _ rfl (by repeat first | apply Has.head | apply Has.tail) rfl ?_ | refine op_1 HO rfl _ _ _ _ rfl (by repeat first | apply Has.head | apply Has.tail) (by repeat first | apply Part.done | apply Part.take | apply Part.skip) ?_)
      | (with_reducible refine own_at_store 27 ?_; refine os_1 HO _ rfl rfl _ _ rfl (by repeat first | apply Sto.head | apply Sto.tail | apply Patch.put | apply Patch.skip | apply Patch.done) rfl ?_; intro WB HOn; clear HO; have HO := HOn; clear HOn)
      | (with_reducible refine own_at_box 29 ?_; refine ob_2 HO _ rfl ?_; intro nB WB HOn; (try simp only [List.cons_append, List.nil_append] at HOn); clear HO; have HO := HOn; clear HOn)
      | (with_reducible refine own_at_alloc 29 ?_; refine oa_2 HO ?_; intro nB WB HOn; (try simp only [List.cons_append, List.nil_append] at HOn); clear HO; have HO := HOn; clear HOn)
      | (with_reducible refine own_at_load 29 ?_; first | refine ol_2 HO rfl _ _ rfl (by repeat first | apply Has.head | apply Has.tail) rfl ?_ | refine op_2 HO rfl _ _ _ _ rfl (by repeat first | apply Has.head | apply Has.tail) (by repeat first | apply Part.done | apply Part.take | apply Part.skip) ?_)
      | (with_reducible refine own_at_store 29 ?_; refine os_2 HO _ rfl rfl _ _ rfl (by repeat first | apply Sto.head | apply Sto.tail | apply Patch.put | apply Patch.skip | apply Patch.done) rfl ?_; intro WB HOn; clear HO; have HO := HOn; clear HOn)
      | (with_reducible refine own_at_box 4 ?_; refine sb_0 HO (.bool _) rfl rfl ?_; intro nB WB HOn; (try simp only [List.cons_append, List.nil_append] at HOn); clear HO; have HO := HOn; clear HOn)
      | (with_reducible refine own_at_alloc 4 ?_; refine sa_0 HO ?_; intro nB WB HOn; (try simp only [List.cons_append, List.nil_append] at HOn); clear HO; have HO := HOn; clear HOn)
      | (with_reducible refine own_at_load 4 ?_; refine sl_0 HO rfl _ _ _ _ rfl (by repeat first | apply Has.head | apply Has.tail) rfl ?_)
      | (with_reducible refine own_at_store 4 ?_; refine st_0 HO (.bool _) rfl rfl _ _ rfl (by repeat first | apply Sto.head | apply Sto.tail | apply Patch.put | apply Patch.skip | apply Patch.done) rfl ?_; intro WB HOn; clear HO; have HO := HOn; clear HOn)
      | (with_reducible refine own_at_box 3 ?_; refine sb_1 HO (.int .i64 _) rfl rfl ?_; intro nB WB HOn; (try simp only [List.cons_append, List.nil_append] at HOn); clear HO; have HO := HOn; clear HOn)
      | (with_reducible refine own_at_alloc 3 ?_; refine sa_1 HO ?_; intro nB WB HOn; (try simp only [List.cons_append, List.nil_append] at HOn); clear HO; have HO := HOn; clear HOn)
      | (with_reducible refine own_at_load 3 ?_; refine sl_1 HO rfl _ _ _ _ rfl (by repeat first | apply Has.head | apply Has.tail) rfl ?_)
      | (with_reducible refine own_at_store 3 ?_; refine st_1 HO (.int .i64 _) rfl rfl _ _ rfl (by repeat first | apply Sto.head | apply Sto.tail | apply Patch.put | apply Patch.skip | apply Patch.done) rfl ?_; intro WB HOn; clear HO; have HO := HOn; clear HOn)
      | (with_reducible refine own_at_box 30 ?_; refine sb_2 HO (.slice _ _ _) rfl rfl ?_; intro nB WB HOn; (try simp only [List.cons_append, List.nil_append] at HOn); clear HO; have HO := HOn; clear HOn)
      | (with_reducible refine own_at_alloc 30 ?_; refine sa_2 HO ?_; intro nB WB HOn; (try simp only [List.cons_append, List.nil_append] at HOn); clear HO; have HO := HOn; clear HOn)
      | (with_reducible refine own_at_load 30 ?_; refine sl_2 HO rfl _ _ _ _ rfl (by repeat first | apply Has.head | apply Has.tail) rfl ?_)
      | (with_reducible refine own_at_store 30 ?_; refine st_2 HO (.slice _ _ _) rfl rfl _ _ rfl (by repeat first | apply Sto.head | apply Sto.tail | apply Patch.put | apply Patch.skip | apply Patch.done) rfl ?_; intro WB HOn; clear HO; have HO := HOn; clear HOn)
      | (go_at_call 11; refine (allow_replay _ _ _ _ _ _ _ _ _ _ _ _ _ _ _ _ _ _ _).mono ?_; rintro e wc ⟨rfl, hb⟩; have HOn := HO.below hb; clear HO hb; have HO := HOn; clear HOn))
          go_upto_region 14 with (first
      | (with_reducible refine own_at_box 32 ?_; refine ob_0 HO _ rfl ?_; intro nB WB HOn; (try simp only [List.cons_append, List.nil_append] at HOn); clear HO; have HO := HOn; clear HOn)
      | (with_reducible refine own_at_alloc 32 ?_; refine oa_0 HO ?_; intro nB WB HOn; (try simp only [List.cons_append, List.nil_append] at HOn); clear HO; have HO := HOn; clear HOn)
      | (with_reducible refine own_at_load 32 ?_; first | refine ol_0 HO rfl _ _ rfl (by repeat first | apply Has.head | apply Has.tail) rfl ?_ | refine op_0 HO rfl _ _ _ _ rfl (by repeat first | apply Has.head | apply Has.tail) (by repeat first | apply Part.done | apply Part.take | apply Part.skip) ?_)
      | (with_reducible refine own_at_store 32 ?_; refine os_0 HO _ rfl rfl _ _ rfl (by repeat first | apply Sto.head | apply Sto.tail | apply Patch.put | apply Patch.skip | apply Patch.done) rfl ?_; intro WB HOn; clear HO; have HO := HOn; clear HOn)
      | (with_reducible refine own_at_box 27 ?_; refine ob_1 HO _ rfl ?_; intro nB WB HOn; (try simp only [List.cons_append, List.nil_append] at HOn); clear HO; have HO := HOn; clear HOn)
      | (with_reducible refine own_at_alloc 27 ?_; refine oa_1 HO ?_; intro nB WB HOn; (try simp only [List.cons_append, List.nil_append] at HOn); clear HO; have HO := HOn; clear HOn)
      | (with_reducible refine own_at_load 27 ?_; first | refine ol_1 HO rfl _ _ rfl (by repeat first | apply Has.head | apply Has.tail) rfl ?_ | refine op_1 HO rfl _ _ _ _ rfl (by repeat first | apply Has.head | apply Has.tail) (by repeat first | apply Part.done | apply Part.take | apply Part.skip) ?_)
      | (with_reducible refine own_at_store 27 ?_; refine os_1 HO _ rfl rfl _ _ rfl (by repeat first | apply Sto.head | apply Sto.tail | apply Patch.put | apply Patch.skip | apply Patch.done) rfl ?_; intro WB HOn; clear HO; have HO := HOn; clear HOn)
      | (with_reducible refine own_at_box 29 ?_; refine ob_2 HO _ rfl ?_; intro nB WB HOn; (try simp only [List.cons_append, List.nil_append] at HOn); clear HO; have HO := HOn; clear HOn)
      | (with_reducible refine own_at_alloc 29 ?_; refine oa_2 HO ?_; intro nB WB HOn; (try simp only [List.cons_append, List.nil_append] at HOn); clear HO; have HO := HOn; clear HOn)
      | (with_reducible refine own_at_load 29 ?_; first | refine ol_2 HO rfl _ _ rfl (by repeat first | apply Has.head | apply Has.tail) rfl ?_ | refine op_2 HO rfl _ _ _ _ rfl (by repeat first | apply Has.head | apply Has.tail) (by repeat first | apply Part.done | apply Part.take | apply Part.skip) ?_)
      | (with_reducible refine own_at_store 29 ?_; refine os_2 HO _ rfl rfl _ _ rfl (by repeat first | apply Sto.head | apply Sto.tail | apply Patch.put | apply Patch.skip | apply Patch.done) rfl ?_; intro WB HOn; clear HO; have HO := HOn; clear HOn)
      | (with_reducible refine own_at_box 4 ?_; refine sb_0 HO (.bool _) rfl rfl ?_; intro nB WB HOn; (try simp only [List.cons_append, List.nil_append] at HOn); clear HO; have HO := HOn; clear HOn)
      | (with_reducible refine own_at_alloc 4 ?_; refine sa_0 HO ?_; intro nB WB HOn; (try simp only [List.cons_append, List.nil_append] at HOn); clear HO; have HO := HOn; clear HOn)
      | (with_reducible refine own_at_load 4 ?_; refine sl_0 HO rfl _ _ _ _ rfl (by repeat first | apply Has.head | apply Has.tail) rfl ?_)
      | (with_reducible refine own_at_store 4 ?_; refine st_0 HO (.bool _) rfl rfl _ _ rfl (by repeat first | apply Sto.head | apply Sto.tail | apply Patch.put | apply Patch.skip | apply Patch.done) rfl ?_; intro WB HOn; clear HO; have HO := HOn; clear HOn)
      | (with_reducible refine own_at_box 3 ?_; refine sb_1 HO (.int .i64 _) rfl rfl ?_; intro nB WB HOn; (try simp only [List.cons_append, List.nil_append] at HOn); clear HO; have HO := HOn; clear HOn)
      | (with_reducible refine own_at_alloc 3 ?_; refine sa_1 HO ?_; intro nB WB HOn; (try simp only [List.cons_append, List.nil_append] at HOn); clear HO; have HO := HOn; clear HOn)
      | (with_reducible refine own_at_load 3 ?_; refine sl_1 HO rfl _ _ _ _ rfl (by repeat first | apply Has.head | apply Has.tail) rfl ?_)
      | (with_reducible refine own_at_store 3 ?_; refine st_1 HO (.int .i64 _) rfl rfl _ _ rfl (by repeat first | apply Sto.head | apply Sto.tail | apply Patch.put | apply Patch.skip | apply Patch.done) rfl ?_; intro WB HOn; clear HO; have HO := HOn; clear HOn)
      | (with_reducible refine own_at_box 30 ?_; refine sb_2 HO (.slice _ _ _) rfl rfl ?_; intro nB WB HOn; (try simp only [List.cons_append, List.nil_append] at HOn); clear HO; have HO := HOn; clear HOn)
      | (with_reducible refine own_at_alloc 30 ?_; refine sa_2 HO ?_; intro nB WB HOn; (try simp only [List.cons_append, List.nil_append] at HOn); clear HO; have HO := HOn; clear HOn)
      | (with_reducible refine own_at_load 30 ?_; refine sl_2 HO rfl _ _ _ _ rfl (by repeat first | apply Has.head | apply Has.tail) rfl ?_)
      | (with_reducible refine own_at_store 30 ?_; refine st_2 HO (.slice _ _ _) rfl rfl _ _ rfl (by repeat first | apply Sto.head | apply Sto.tail | apply Patch.put | apply Patch.skip | apply Patch.done) rfl ?_; intro WB HOn; clear HO; have HO := HOn; clear HOn)
      | (go_at_call 11; refine (allow_no_frozen _ _ _ _ _ _ _ _ _ _ _ _ _ _ _ _ _ _ _ _ _ _).mono ?_; rintro e wc ⟨rfl, hb⟩; have HOn := HO.below hb; clear HO hb; have HO := HOn; clear HOn))
          go_upto_region 15 with (first
      | (with_reducible refine own_at_box 32 ?_; refine ob_0 HO _ rfl ?_; intro nB WB HOn; (try simp only [List.cons_append, List.nil_append] at HOn); clear HO; have HO := HOn; clear HOn)
      | (with_reducible refine own_at_alloc 32 ?_; refine oa_0 HO ?_; intro nB WB HOn; (try simp only [List.cons_append, List.nil_append] at HOn); clear HO; have HO := HOn; clear HOn)
      | (with_reducible refine own_at_load 32 ?_; first | refine ol_0 HO rfl _ _ rfl (by repeat first | apply Has.head | apply Has.tail) rfl ?_ | refine op_0 HO rfl _ _ _ _ rfl (by repeat first | apply Has.head | apply Has.tail) (by repeat first | apply Part.done | apply Part.take | apply Part.skip) ?_)
      | (with_reducible refine own_at_store 32 ?_; refine os_0 HO _ rfl rfl _ _ rfl (by repeat first | apply Sto.head | apply Sto.tail | apply Patch.put | apply Patch.skip | apply Patch.done) rfl ?_; intro WB HOn; clear HO; have HO := HOn; clear HOn)
      | (with_reducible refine own_at_box 27 ?_; refine ob_1 HO _ rfl ?_; intro nB WB HOn; (try simp only [List.cons_append, List.nil_append] at HOn); clear HO; have HO := HOn; clear HOn)
      | (with_reducible refine own_at_alloc 27 ?_; refine oa_1 HO ?_; intro nB WB HOn; (try simp only [List.cons_append, List.nil_append] at HOn); clear HO; have HO := HOn; clear HOn)
      | (with_reducible refine own_at_load 27 ?_; first | refine ol_1 HO rfl _ _ rfl (by repeat first | apply Has.head | apply Has.tail) rfl ?_ | refine op_1 HO rfl _ _ _ _ rfl (by repeat first | apply Has.head | apply Has.tail) (by repeat first | apply Part.done | apply Part.take | apply Part.skip) ?_)
      | (with_reducible refine own_at_store 27 ?_; refine os_1 HO _ rfl rfl _ _ rfl (by repeat first | apply Sto.head | apply Sto.tail | apply Patch.put | apply Patch.skip | apply Patch.done) rfl ?_; intro WB HOn; clear HO; have HO := HOn; clear HOn)
      | (with_reducible refine own_at_box 29 ?_; refine ob_2 HO _ rfl ?_; intro nB WB HOn; (try simp only [List.cons_append, List.nil_append] at HOn); clear HO; have HO := HOn; clear HOn)
      | (with_reducible refine own_at_alloc 29 ?_; refine oa_2 HO ?_; intro nB WB HOn; (try simp only [List.cons_append, List.nil_append] at HOn); clear HO; have HO := HOn; clear HOn)
      | (with_reducible refine own_at_load 29 ?_; first | refine ol_2 HO rfl _ _ rfl (by repeat first | apply Has.head | apply Has.tail) rfl ?_ | refine op_2 HO rfl _ _ _ _ rfl (by repeat first | apply Has.head | apply Has.tail) (by repeat first | apply Part.done | apply Part.take | apply Part.skip) ?_)
      | (with_reducible refine own_at_store 29 ?_; refine os_2 HO _ rfl rfl _ _ rfl (by repeat first | apply Sto.head | apply Sto.tail | apply Patch.put | apply Patch.skip | apply Patch.done) rfl ?_; intro WB HOn; clear HO; have HO := HOn; clear HOn)
      | (with_reducible refine own_at_box 4 ?_; refine sb_0 HO (.bool _) rfl rfl ?_; intro nB WB HOn; (try simp only [List.cons_append, List.nil_append] at HOn); clear HO; have HO := HOn; clear HOn)
      | (with_reducible refine own_at_alloc 4 ?_; refine sa_0 HO ?_; intro nB WB HOn; (try simp only [List.cons_append, List.nil_append] at HOn); clear HO; have HO := HOn; clear HOn)
      | (with_reducible refine own_at_load 4 ?_; refine sl_0 HO rfl _ _ _ _ rfl (by repeat first | apply Has.head | apply Has.tail) rfl ?_)
      | (with_reducible refine own_at_store 4 ?_; refine st_0 HO (.bool _) rfl rfl _ _ rfl (by repeat first | apply Sto.head | apply Sto.tail | apply Patch.put | apply Patch.skip | apply Patch.done) rfl ?_; intro WB HOn; clear HO; have HO := HOn; clear HOn)
      | (with_reducible refine own_at_box 3 ?_; refine sb_1 HO (.int .i64 _) rfl rfl ?_; intro nB WB HOn; (try simp only [List.cons_append, List.nil_append] at HOn); clear HO; have HO := HOn; clear HOn)
      | (with_reducible refine own_at_alloc 3 ?_; refine sa_1 HO ?_; intro nB WB HOn; (try simp only [List.cons_append, List.nil_append] at HOn); clear HO; have HO := HOn; clear HOn)
      | (with_reducible refine own_at_load 3 ?_; refine sl_1 HO rfl _ _ _ _ rfl (by repeat first | apply Has.head | apply Has.tail) rfl ?_)
      | (with_reducible refine own_at_store 3 ?_; refine st_1 HO (.int .i64 _) rfl rfl _ _ rfl (by repeat first | apply Sto.head | apply Sto.tail | apply Patch.put | apply Patch.skip | apply Patch.done) rfl ?_; intro WB HOn; clear HO; have HO := HOn; clear HOn)
      | (with_reducible refine own_at_box 30 ?_; refine sb_2 HO (.slice _ _ _) rfl rfl ?_; intro nB WB HOn; (try simp only [List.cons_append, List.nil_append] at HOn); clear HO; have HO := HOn; clear HOn)
      | (with_reducible refine own_at_alloc 30 ?_; refine sa_2 HO ?_; intro nB WB HOn; (try simp only [List.cons_append, List.nil_append] at HOn); clear HO; have HO := HOn; clear HOn)
      | (with_reducible refine own_at_load 30 ?_; refine sl_2 HO rfl _ _ _ _ rfl (by repeat first | apply Has.head | apply Has.tail) rfl ?_)
      | (with_reducible refine own_at_store 30 ?_; refine st_2 HO (.slice _ _ _) rfl rfl _ _ rfl (by repeat first | apply Sto.head | apply Sto.tail | apply Patch.put | apply Patch.skip | apply Patch.done) rfl ?_; intro WB HOn; clear HO; have HO := HOn; clear HOn)
      | (go_at_call 20; refine (active_f _ _ _ _ _ _ _ _ _ _ _ _ _ _ _ _ _ _ _ _ _ _).mono ?_; rintro e wc ⟨rfl, hb⟩; have HOn := HO.below hb; clear HO hb; have HO := HOn; clear HOn))
          go_upto_region 16 with (first
      | (with_reducible refine own_at_box 32 ?_; refine ob_0 HO _ rfl ?_; intro nB WB HOn; (try simp only [List.cons_append, List.nil_append] at HOn); clear HO; have HO := HOn; clear HOn)
      | (with_reducible refine own_at_alloc 32 ?_; refine oa_0 HO ?_; intro nB WB HOn; (try simp only [List.cons_append, List.nil_append] at HOn); clear HO; have HO := HOn; clear HOn)
      | (with_reducible refine own_at_load 32 ?_; first | refine ol_0 HO rfl _ _ rfl (by repeat first | apply Has.head | apply Has.tail) rfl ?_ | refine op_0 HO rfl _ _ _ _ rfl (by repeat first | apply Has.head | apply Has.tail) (by repeat first | apply Part.done | apply Part.take | apply Part.skip) ?_)
      | (with_reducible refine own_at_store 32 ?_; refine os_0 HO _ rfl rfl _ _ rfl (by repeat first | apply Sto.head | apply Sto.tail | apply Patch.put | apply Patch.skip | apply Patch.done) rfl ?_; intro WB HOn; clear HO; have HO := HOn; clear HOn)
      | (with_reducible refine own_at_box 27 ?_; refine ob_1 HO _ rfl ?_; intro nB WB HOn; (try simp only [List.cons_append, List.nil_append] at HOn); clear HO; have HO := HOn; clear HOn)
      | (with_reducible refine own_at_alloc 27 ?_; refine oa_1 HO ?_; intro nB WB HOn; (try simp only [List.cons_append, List.nil_append] at HOn); clear HO; have HO := HOn; clear HOn)
      | (with_reducible refine own_at_load 27 ?_; first | refine ol_1 HO rfl _ _ rfl (by repeat first | apply Has.head | apply Has.tail) rfl ?_ | refine op_1 HO rfl _ _ _ _ rfl (by repeat first | apply Has.head | apply Has.tail) (by repeat first | apply Part.done | apply Part.take | apply Part.skip) ?_)
      | (with_reducible refine own_at_store 27 ?_; refine os_1 HO _ rfl rfl _ _ rfl (by repeat first | apply Sto.head | apply Sto.tail | apply Patch.put | apply Patch.skip | apply Patch.done) rfl ?_; intro WB HOn; clear HO; have HO := HOn; clear HOn)
      | (with_reducible refine own_at_box 29 ?_; refine ob_2 HO _ rfl ?_; intro nB WB HOn; (try simp only [List.cons_append, List.nil_append] at HOn); clear HO; have HO := HOn; clear HOn)
      | (with_reducible refine own_at_alloc 29 ?_; refine oa_2 HO ?_; intro nB WB HOn; (try simp only [List.cons_append, List.nil_append] at HOn); clear HO; have HO := HOn; clear HOn)
      | (with_reducible refine own_at_load 29 ?_; first | refine ol_2 HO rfl _ _ rfl (by repeat first | apply Has.head | apply Has.tail) rfl ?_ | refine op_2 HO rfl _ _ _ _ rfl (by repeat first | apply Has.head | apply Has.tail) (by repeat first | apply Part.done | apply Part.take | apply Part.skip) ?_)
      | (with_reducible refine own_at_store 29 ?_; refine os_2 HO _ rfl rfl _ _ rfl (by repeat first | apply Sto.head | apply Sto.tail | apply Patch.put | apply Patch.skip | apply Patch.done) rfl ?_; intro WB HOn; clear HO; have HO := HOn; clear HOn)
      | (with_reducible refine own_at_box 4 ?_; refine sb_0 HO (.bool _) rfl rfl ?_; intro nB WB HOn; (try simp only [List.cons_append, List.nil_append] at HOn); clear HO; have HO := HOn; clear HOn)
      | (with_reducible refine own_at_alloc 4 ?_; refine sa_0 HO ?_; intro nB WB HOn; (try simp only [List.cons_append, List.nil_append] at HOn); clear HO; have HO := HOn; clear HOn)
      | (with_reducible refine own_at_load 4 ?_; refine sl_0 HO rfl _ _ _ _ rfl (by repeat first | apply Has.head | apply Has.tail) rfl ?_)
      | (with_reducible refine own_at_store 4 ?_; refine st_0 HO (.bool _) rfl rfl _ _ rfl (by repeat first | apply Sto.head | apply Sto.tail | apply Patch.put | apply Patch.skip | apply Patch.done) rfl ?_; intro WB HOn; clear HO; have HO := HOn; clear HOn)
      | (with_reducible refine own_at_box 3 ?_; refine sb_1 HO (.int .i64 _) rfl rfl ?_; intro nB WB HOn; (try simp only [List.cons_append, List.nil_append] at HOn); clear HO; have HO := HOn; clear HOn)
      | (with_reducible refine own_at_alloc 3 ?_; refine sa_1 HO ?_; intro nB WB HOn; (try simp only [List.cons_append, List.nil_append] at HOn); clear HO; have HO := HOn; clear HOn)
      | (with_reducible refine own_at_load 3 ?_; refine sl_1 HO rfl _ _ _ _ rfl (by repeat first | apply Has.head | apply Has.tail) rfl ?_)
      | (with_reducible refine own_at_store 3 ?_; refine st_1 HO (.int .i64 _) rfl rfl _ _ rfl (by repeat first | apply Sto.head | apply Sto.tail | apply Patch.put | apply Patch.skip | apply Patch.done) rfl ?_; intro WB HOn; clear HO; have HO := HOn; clear HOn)
      | (with_reducible refine own_at_box 30 ?_; refine sb_2 HO (.slice _ _ _) rfl rfl ?_; intro nB WB HOn; (try simp only [List.cons_append, List.nil_append] at HOn); clear HO; have HO := HOn; clear HOn)
      | (with_reducible refine own_at_alloc 30 ?_; refine sa_2 HO ?_; intro nB WB HOn; (try simp only [List.cons_append, List.nil_append] at HOn); clear HO; have HO := HOn; clear HOn)
      | (with_reducible refine own_at_load 30 ?_; refine sl_2 HO rfl _ _ _ _ rfl (by repeat first | apply Has.head | apply Has.tail) rfl ?_)
      | (with_reducible refine own_at_store 30 ?_; refine st_2 HO (.slice _ _ _) rfl rfl _ _ rfl (by repeat first | apply Sto.head | apply Sto.tail | apply Patch.put | apply Patch.skip | apply Patch.done) rfl ?_; intro WB HOn; clear HO; have HO := HOn; clear HOn)
      | (go_at_call 11; refine (allow_sync _ _ _ _ _ _ _ _ _ _ _ _ _ _ _ _ _ _ _ _ _).mono ?_; rintro e wc ⟨rfl, hb⟩; have HOn := HO.below hb; clear HO hb; have HO := HOn; clear HOn))
          go_upto_region 17 with (first
      | (with_reducible refine own_at_box 32 ?_; refine ob_0 HO _ rfl ?_; intro nB WB HOn; (try simp only [List.cons_append, List.nil_append] at HOn); clear HO; have HO := HOn; clear HOn)
      | (with_reducible refine own_at_alloc 32 ?_; refine oa_0 HO ?_; intro nB WB HOn; (try simp only [List.cons_append, List.nil_append] at HOn); clear HO; have HO := HOn; clear HOn)
      | (with_reducible refine own_at_load 32 ?_; first | refine ol_0 HO rfl _ _ rfl (by repeat first | apply Has.head | apply Has.tail) rfl ?_ | refine op_0 HO rfl _ _ _ _ rfl (by repeat first | apply Has.head | apply Has.tail) (by repeat first | apply Part.done | apply Part.take | apply Part.skip) ?_)
      | (with_reducible refine own_at_store 32 ?_; refine os_0 HO _ rfl rfl _ _ rfl (by repeat first | apply Sto.head | apply Sto.tail | apply Patch.put | apply Patch.skip | apply Patch.done) rfl ?_; intro WB HOn; clear HO; have HO := HOn; clear HOn)
      | (with_reducible refine own_at_box 27 ?_; refine ob_1 HO _ rfl ?_; intro nB WB HOn; (try simp only [List.cons_append, List.nil_append] at HOn); clear HO; have HO := HOn; clear HOn)
      | (with_reducible refine own_at_alloc 27 ?_; refine oa_1 HO ?_; intro nB WB HOn; (try simp only [List.cons_append, List.nil_append] at HOn); clear HO; have HO := HOn; clear HOn)
      | (with_reducible refine own_at_load 27 ?_; first | refine ol_1 HO rfl _ _ rfl (by repeat first | apply Has.head | apply Has.tail) rfl ?_ | refine op_1 HO rfl _ _ _ _ rfl (by repeat first | apply Has.head | apply Has.tail) (by repeat first | apply Part.done | apply Part.take | apply Part.skip) ?_)
      | (with_reducible refine own_at_store 27 ?_; refine os_1 HO _ rfl rfl _ _ rfl (by repeat first | apply Sto.head | apply Sto.tail | apply Patch.put | apply Patch.skip | apply Patch.done) rfl ?_; intro WB HOn; clear HO; have HO := HOn; clear HOn)
      | (with_reducible refine own_at_box 29 ?_; refine ob_2 HO _ rfl ?_; intro nB WB HOn; (try simp only [List.cons_append, List.nil_append] at HOn); clear HO; have HO := HOn; clear HOn)
      | (with_reducible refine own_at_alloc 29 ?_; refine oa_2 HO ?_; intro nB WB HOn; (try simp only [List.cons_append, List.nil_append] at HOn); clear HO; have HO := HOn; clear HOn)
      | (with_reducible refine own_at_load 29 ?_; first | refine ol_2 HO rfl _ _ rfl (by repeat first | apply Has.head | apply Has.tail) rfl ?_ | refine op_2 HO rfl _ _ _ _ rfl (by repeat first | apply Has.head | apply Has.tail) (by repeat first | apply Part.done | apply Part.take | apply Part.skip) ?_)
      | (with_reducible refine own_at_store 29 ?_; refine os_2 HO _ rfl rfl _ _ rfl (by repeat first | apply Sto.head | apply Sto.tail | apply Patch.put | apply Patch.skip | apply Patch.done) rfl ?_; intro WB HOn; clear HO; have HO := HOn; clear HOn)
      | (with_reducible refine own_at_box 4 ?_; refine sb_0 HO (.bool _) rfl rfl ?_; intro nB WB HOn; (try simp only [List.cons_append, List.nil_append] at HOn); clear HO; have HO := HOn; clear HOn)
      | (with_reducible refine own_at_alloc 4 ?_; refine sa_0 HO ?_; intro nB WB HOn; (try simp only [List.cons_append, List.nil_append] at HOn); clear HO; have HO := HOn; clear HOn)
      | (with_reducible refine own_at_load 4 ?_; refine sl_0 HO rfl _ _ _ _ rfl (by repeat first | apply Has.head | apply Has.tail) rfl ?_)
      | (with_reducible refine own_at_store 4 ?_; refine st_0 HO (.bool _) rfl rfl _ _ rfl (by repeat first | apply Sto.head | apply Sto.tail | apply Patch.put | apply Patch.skip | apply Patch.done) rfl ?_; intro WB HOn; clear HO; have HO := HOn; clear HOn)
      | (with_reducible refine own_at_box 3 ?_; refine sb_1 HO (.int .i64 _) rfl rfl ?_; intro nB WB HOn; (try simp only [List.cons_append, List.nil_append] at HOn); clear HO; have HO := HOn; clear HOn)
      | (with_reducible refine own_at_alloc 3 ?_; refine sa_1 HO ?_; intro nB WB HOn; (try simp only [List.cons_append, List.nil_append] at HOn); clear HO; have HO := HOn; clear HOn)
      | (with_reducible refine own_at_load 3 ?_; refine sl_1 HO rfl _ _ _ _ rfl (by repeat first | apply Has.head | apply Has.tail) rfl ?_)
      | (with_reducible refine own_at_store 3 ?_; refine st_1 HO (.int .i64 _) rfl rfl _ _ rfl (by repeat first | apply Sto.head | apply Sto.tail | apply Patch.put | apply Patch.skip | apply Patch.done) rfl ?_; intro WB HOn; clear HO; have HO := HOn; clear HOn)
      | (with_reducible refine own_at_box 30 ?_; refine sb_2 HO (.slice _ _ _) rfl rfl ?_; intro nB WB HOn; (try simp only [List.cons_append, List.nil_append] at HOn); clear HO; have HO := HOn; clear HOn)
      | (with_reducible refine own_at_alloc 30 ?_; refine sa_2 HO ?_; intro nB WB HOn; (try simp only [List.cons_append, List.nil_append] at HOn); clear HO; have HO := HOn; clear HOn)
      | (with_reducible refine own_at_load 30 ?_; refine sl_2 HO rfl _ _ _ _ rfl (by repeat first | apply Has.head | apply Has.tail) rfl ?_)
      | (with_reducible refine own_at_store 30 ?_; refine st_2 HO (.slice _ _ _) rfl rfl _ _ rfl (by repeat first | apply Sto.head | apply Sto.tail | apply Patch.put | apply Patch.skip | apply Patch.done) rfl ?_; intro WB HOn; clear HO; have HO := HOn; clear HOn)
      | (go_at_call 17; refine (freeze_f _ _ _ _ _ _ _ _ _ _ _ _ _ _ _ _ _ _ _ _ _ _).mono ?_; rintro e wc ⟨rfl, hb⟩; have HOn := HO.below hb; clear HO hb; have HO := HOn; clear HOn)
      | (go_at_call 11; refine (allow_replay_no _ _ _ _ _ _ _ _ _ _ _ _ _ _ _ _ _ _ _ _ (Or.inl rfl) _).mono ?_; rintro e wc ⟨rfl, hb⟩; have HOn := HO.below hb; clear HO hb; have HO := HOn; clear HOn))
          go_wp2_with (first
      | (with_reducible refine own_at_box 32 ?_; refine ob_0 HO _ rfl ?_; intro nB WB HOn; (try simp only [List.cons_append, List.nil_append] at HOn); clear HO; have HO := HOn; clear HOn)
      | (with_reducible refine own_at_alloc 32 ?_; refine oa_0 HO ?_; intro nB WB HOn; (try simp only [List.cons_append, List.nil_append] at HOn); clear HO; have HO := HOn; clear HOn)
      | (with_reducible refine own_at_load 32 ?_; first | refine ol_0 HO rfl _ _ rfl (by repeat first | apply Has.head | apply Has.tail) rfl ?_ | refine op_0 HO rfl _ _ _ _ rfl (by repeat first | apply Has.head | apply Has.tail) (by repeat first | apply Part.done | apply Part.take | apply Part.skip) ?_)
      | (with_reducible refine own_at_store 32 ?_; refine os_0 HO _ rfl rfl _ _ rfl (by repeat first | apply Sto.head | apply Sto.tail | apply Patch.put | apply Patch.skip | apply Patch.done) rfl ?_; intro WB HOn; clear HO; have HO := HOn; clear HOn)
      | (with_reducible refine own_at_box 27 ?_; refine ob_1 HO _ rfl ?_; intro nB WB HOn; (try simp only [List.cons_append, List.nil_append] at HOn); clear HO; have HO := HOn; clear HOn)
      | (with_reducible refine own_at_alloc 27 ?_; refine oa_1 HO ?_; intro nB WB HOn; (try simp only [List.cons_append, List.nil_append] at HOn); clear HO; have HO := HOn; clear HOn)
      | (with_reducible refine own_at_load 27 ?_; first | refine ol_1 HO rfl _ _ rfl (by repeat first | apply Has.head | apply Has.tail) rfl ?_ | refine op_1 HO rfl _ _ _ _ rfl (by repeat first | apply Has.head | apply Has.tail) (by repeat first | apply Part.done | apply Part.take | apply Part.skip) ?_)
      | (with_reducible refine own_at_store 27 ?_; refine os_1 HO _ rfl rfl _ _ rfl (by repeat first | apply Sto.head | apply Sto.tail | apply Patch.put | apply Patch.skip | apply Patch.done) rfl ?_; intro WB HOn; clear HO; have HO := HOn; clear HOn)
      | (with_reducible refine own_at_box 29 ?_; refine ob_2 HO _ rfl ?_; intro nB WB HOn; (try simp only [List.cons_append, List.nil_append] at HOn); clear HO; have HO := HOn; clear HOn)
      | (with_reducible refine own_at_alloc 29 ?_; refine oa_2 HO ?_; intro nB WB HOn; (try simp only [List.cons_append, List.nil_append] at HOn); clear HO; have HO := HOn; clear HOn)
      | (with_reducible refine own_at_load 29 ?_; first | refine ol_2 HO rfl _ _ rfl (by repeat first | apply Has.head | apply Has.tail) rfl ?_ | refine op_2 HO rfl _ _ _ _ rfl (by repeat first | apply Has.head | apply Has.tail) (by repeat first | apply Part.done | apply Part.take | apply Part.skip) ?_)
      | (with_reducible refine own_at_store 29 ?_; refine os_2 HO _ rfl rfl _ _ rfl (by repeat first | apply Sto.head | apply Sto.tail | apply Patch.put | apply Patch.skip | apply Patch.done) rfl ?_; intro WB HOn; clear HO; have HO := HOn; clear HOn)
      | (with_reducible refine own_at_box 4 ?_; refine sb_0 HO (.bool _) rfl rfl ?_; intro nB WB HOn; (try simp only [List.cons_append, List.nil_append] at HOn); clear HO; have HO := HOn; clear HOn)
      | (with_reducible refine own_at_alloc 4 ?_; refine sa_0 HO ?_; intro nB WB HOn; (try simp only [List.cons_append, List.nil_append] at HOn); clear HO; have HO := HOn; clear HOn)
      | (with_reducible refine own_at_load 4 ?_; refine sl_0 HO rfl _ _ _ _ rfl (by repeat first | apply Has.head | apply Has.tail) rfl ?_)
      | (with_reducible refine own_at_store 4 ?_; refine st_0 HO (.bool _) rfl rfl _ _ rfl (by repeat first | apply Sto.head | apply Sto.tail | apply Patch.put | apply Patch.skip | apply Patch.done) rfl ?_; intro WB HOn; clear HO; have HO := HOn; clear HOn)
      | (with_reducible refine own_at_box 3 ?_; refine sb_1 HO (.int .i64 _) rfl rfl ?_; intro nB WB HOn; (try simp only [List.cons_append, List.nil_append] at HOn); clear HO; have HO := HOn; clear HOn)
      | (with_reducible refine own_at_alloc 3 ?_; refine sa_1 HO ?_; intro nB WB HOn; (try simp only [List.cons_append, List.nil_append] at HOn); clear HO; have HO := HOn; clear HOn)
      | (with_reducible refine own_at_load 3 ?_; refine sl_1 HO rfl _ _ _ _ rfl (by repeat first | apply Has.head | apply Has.tail) rfl ?_)
      | (with_reducible refine own_at_store 3 ?_; refine st_1 HO (.int .i64 _) rfl rfl _ _ rfl (by repeat first | apply Sto.head | apply Sto.tail | apply Patch.put | apply Patch.skip | apply Patch.done) rfl ?_; intro WB HOn; clear HO; have HO := HOn; clear HOn)
      | (with_reducible refine own_at_box 30 ?_; refine sb_2 HO (.slice _ _ _) rfl rfl ?_; intro nB WB HOn; (try simp only [List.cons_append, List.nil_append] at HOn); clear HO; have HO := HOn; clear HOn)
      | (with_reducible refine own_at_alloc 30 ?_; refine sa_2 HO ?_; intro nB WB HOn; (try simp only [List.cons_append, List.nil_append] at HOn); clear HO; have HO := HOn; clear HOn)
      | (with_reducible refine own_at_load 30 ?_; refine sl_2 HO rfl _ _ _ _ rfl (by repeat first | apply Has.head | apply Has.tail) rfl ?_)
      | (with_reducible refine own_at_store 30 ?_; refine st_2 HO (.slice _ _ _) rfl rfl _ _ rfl (by repeat first | apply Sto.head | apply Sto.tail | apply Patch.put | apply Patch.skip | apply Patch.done) rfl ?_; intro WB HOn; clear HO; have HO := HOn; clear HOn)
      | (go_at_call 14; refine (frozen_f _ _ _ _ _ _ _ _ _ _ _ _ _ _ _ _ _ _ _ _ _ _).mono ?_; rintro e wc ⟨rfl, hb⟩; have HOn := HO.below hb; clear HO hb; have HO := HOn; clear HOn)
      | (go_at_call 8; refine (awake39 _).mono ?_; rintro e wc ⟨rfl, hb⟩; have HOn := HO.below hb; clear HO hb; have HO := HOn; clear HOn)
      | (go_at_call 19; refine (waiting_at _ _ _ _ _ _ _ _ _ _ _ _ _ _ _ _ _ _ A k c ls b 0 _ HW.out HC.out.1 HC.out.2 HA.out (fun hne => ⟨(HO.rng 0 _ _ _ rfl hne).1, (HO.rng 0 _ _ _ rfl hne).2.1⟩) (by omega)).mono ?_; rintro e wc ⟨v9, rfl, ho9, hb⟩; obtain ⟨A9, c9, rfl⟩ := row_sl ho9; clear ho9; have HOn := HO.below hb; clear HO hb; have HO := HOn; clear HOn))
          go_returns
          exact ⟨by first | rfl | (simp; done), HO.q⟩
end Go.Proofs.Ytgcedookbblibaa
