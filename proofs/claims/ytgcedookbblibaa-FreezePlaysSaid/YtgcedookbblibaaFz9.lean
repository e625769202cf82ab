/- Layer 39: FreezeFull. -/
import Derived.Test.YtgcedookbblibaaFz8
namespace Go.Proofs.Ytgcedookbblibaa
open Go Go.RowKit
set_option linter.unusedSimpArgs false
set_option linter.unusedVariables false
theorem feed_at (d0 d1 : Int) (d2 : Bool) (d3 : Int) (d4 d5 : Bool) (d6 d7 : Int) (d8 d9 d10 : Bool) (d11 d12 d13 d14 d15 d16 : Int) (d17 : Bool) (a : Option Addr) (n c : Nat) (ws : List In) (b o : Nat) (i0 i1 i2 i3 i4 i5 : Int) (w : World) (hn : ws.length = n) (hc : n ≤ c) (hm : c ≤ maxLen) (hA : 0 < n → a = some ⟨b, o, none⟩) (hB : cellsR inL ws ≠ [] → b < w.heap.size ∧ w.rangeAt b o (cellsR inL ws)) (hl : n < 256) :
    Calls Try.prog 9 #[.agg #[i6 d0, uw d1, .bool d2, i6 d3, .bool d4, .bool d5, i6 d6, uw d7, .bool d8, .bool d9, .bool d10, i6 d11, i6 d12, i6 d13, i6 d14, uw d15, i6 d16, .bool d17, .slice a n c], .agg #[i6 i0, i6 i1, i6 i2, i6 i3, uw i4, i6 i5]] w fun e w' => ∃ g cap, e = .returned (.tuple #[.agg #[i6 d0, uw d1, .bool d2, i6 d3, .bool d4, .bool d5, i6 d6, uw d7, .bool d8, .bool d9, .bool d10, i6 d11, i6 d12, i6 d13, i6 d14, uw d15, i6 d16, .bool d17, .slice (some ⟨g, 0, none⟩) (n + 1) cap], i6 0]) ∧ n + 1 ≤ cap ∧ cap ≤ maxLen ∧ (w.heap.size ≤ g ∧ g < w'.heap.size ∧ w'.rangeAt g 0 (cellsR inL (ws ++ [⟨i0, i1, i2, i3, i4, i5⟩]))) ∧ Below w.heap.size w w' := by
  subst hn
  exact feed_ok d0 d1 d2 d3 d4 d5 d6 d7 d8 d9 d10 d11 d12 d13 d14 d15 d16 d17 a c ws b o i0 i1 i2 i3 i4 i5 w hc hm hA hB hl
theorem feed_full_at (d0 d1 : Int) (d2 : Bool) (d3 : Int) (d4 d5 : Bool) (d6 d7 : Int) (d8 d9 d10 : Bool) (d11 d12 d13 d14 d15 d16 : Int) (d17 : Bool) (a : Option Addr) (n c : Nat) (ws : List In) (b o : Nat) (i0 i1 i2 i3 i4 i5 : Int) (w : World) (hn : ws.length = n) (hl : 256 ≤ n) (hl2 : n ≤ 1000) :
    Calls Try.prog 9 #[.agg #[i6 d0, uw d1, .bool d2, i6 d3, .bool d4, .bool d5, i6 d6, uw d7, .bool d8, .bool d9, .bool d10, i6 d11, i6 d12, i6 d13, i6 d14, uw d15, i6 d16, .bool d17, .slice a n c], .agg #[i6 i0, i6 i1, i6 i2, i6 i3, uw i4, i6 i5]] w fun e w' => e = .returned (.tuple #[.agg #[i6 d0, uw d1, .bool d2, i6 d3, .bool d4, .bool d5, i6 d6, uw d7, .bool d8, .bool d9, .bool d10, i6 d11, i6 d12, i6 d13, i6 d14, uw d15, i6 d16, .bool d17, .slice a n c], i6 12]) ∧ Below w.heap.size w w' := by
  subst hn
  exact feed_full d0 d1 d2 d3 d4 d5 d6 d7 d8 d9 d10 d11 d12 d13 d14 d15 d16 d17 a c ws b o i0 i1 i2 i3 i4 i5 w hl hl2
theorem waiting_at (d0 d1 : Int) (d2 : Bool) (d3 : Int) (d4 d5 : Bool) (d6 d7 : Int) (d8 d9 d10 : Bool) (d11 d12 d13 d14 d15 d16 : Int) (d17 : Bool) (a : Option Addr) (n c : Nat) (ws : List In) (b o : Nat) (w : World) (hn : ws.length = n) (hc : n ≤ c) (hm : c ≤ maxLen) (hA : 0 < n → a = some ⟨b, o, none⟩) (hB : cellsR inL ws ≠ [] → b < w.heap.size ∧ w.rangeAt b o (cellsR inL ws)) (hl : n ≤ 100000) :
    Calls Try.prog 19 #[.agg #[i6 d0, uw d1, .bool d2, i6 d3, .bool d4, .bool d5, i6 d6, uw d7, .bool d8, .bool d9, .bool d10, i6 d11, i6 d12, i6 d13, i6 d14, uw d15, i6 d16, .bool d17, .slice a n c]] w fun e w' => ∃ v', e = .returned v' ∧ w'.ownsRow w.heap.size 29 6 v' n (cellsR inL ws) ∧ Below w.heap.size w w' := by
  subst hn
  exact waiting_f d0 d1 d2 d3 d4 d5 d6 d7 d8 d9 d10 d11 d12 d13 d14 d15 d16 d17 a c ws b o w hc hm hA hB hl
set_option maxRecDepth 100000 in
set_option maxHeartbeats 16000000 in
theorem lfull39 (w : World) : Calls Try.prog 7 #[] w fun e w' => e = .returned (.bool true) ∧ Below w.heap.size w w' := by
  go_enter Try.func7, Try.ntmps7
  have HO := Own.nil w
  go_wp2_with (first
      | (with_reducible ((first | (refine own_at_box 32 ?_; refine ob_0 HO _ rfl ?_) | (refine own_at_alloc 32 ?_; refine oa_0 HO ?_) | (refine own_at_box 27 ?_; refine ob_1 HO _ rfl ?_) | (refine own_at_alloc 27 ?_; refine oa_1 HO ?_) | (refine own_at_box 29 ?_; refine ob_2 HO _ rfl ?_) | (refine own_at_alloc 29 ?_; refine oa_2 HO ?_) | (refine own_at_box 4 ?_; refine sb_0 HO (.bool _) rfl rfl ?_) | (refine own_at_alloc 4 ?_; refine sa_0 HO ?_) | (refine own_at_box 3 ?_; refine sb_1 HO (.int .i64 _) rfl rfl ?_) | (refine own_at_alloc 3 ?_; refine sa_1 HO ?_) | (refine own_at_box 30 ?_; refine sb_2 HO (.slice _ _ _) rfl rfl ?_) | (refine own_at_alloc 30 ?_; refine sa_2 HO ?_)); intro nB WB HOn; (try simp only [List.cons_append, List.nil_append] at HOn); clear HO; have HO := HOn; clear HOn))
      | (with_reducible (first | (refine own_at_load 32 ?_; refine op_0 HO rfl _ _ _ _ rfl (by repeat first | apply Has.head | apply Has.tail) (by repeat first | apply Part.done | apply Part.take | apply Part.skip) ?_) | (refine own_at_load 27 ?_; refine op_1 HO rfl _ _ _ _ rfl (by repeat first | apply Has.head | apply Has.tail) (by repeat first | apply Part.done | apply Part.take | apply Part.skip) ?_) | (refine own_at_load 29 ?_; refine op_2 HO rfl _ _ _ _ rfl (by repeat first | apply Has.head | apply Has.tail) (by repeat first | apply Part.done | apply Part.take | apply Part.skip) ?_) | (refine own_at_load 4 ?_; refine sl_0 HO rfl _ _ _ _ rfl (by repeat first | apply Has.head | apply Has.tail) rfl ?_) | (refine own_at_load 3 ?_; refine sl_1 HO rfl _ _ _ _ rfl (by repeat first | apply Has.head | apply Has.tail) rfl ?_) | (refine own_at_load 30 ?_; refine sl_2 HO rfl _ _ _ _ rfl (by repeat first | apply Has.head | apply Has.tail) rfl ?_)))
      | (with_reducible ((first | (refine own_at_store 32 ?_; refine os_0 HO _ rfl rfl _ _ rfl (by repeat first | apply Sto.head | apply Sto.tail | apply Patch.put | apply Patch.skip | apply Patch.done) rfl ?_) | (refine own_at_store 27 ?_; refine os_1 HO _ rfl rfl _ _ rfl (by repeat first | apply Sto.head | apply Sto.tail | apply Patch.put | apply Patch.skip | apply Patch.done) rfl ?_) | (refine own_at_store 29 ?_; refine os_2 HO _ rfl rfl _ _ rfl (by repeat first | apply Sto.head | apply Sto.tail | apply Patch.put | apply Patch.skip | apply Patch.done) rfl ?_) | (refine own_at_store 4 ?_; refine st_0 HO (.bool _) rfl rfl _ _ rfl (by repeat first | apply Sto.head | apply Sto.tail | apply Patch.put | apply Patch.skip | apply Patch.done) rfl ?_) | (refine own_at_store 3 ?_; refine st_1 HO (.int .i64 _) rfl rfl _ _ rfl (by repeat first | apply Sto.head | apply Sto.tail | apply Patch.put | apply Patch.skip | apply Patch.done) rfl ?_) | (refine own_at_store 30 ?_; refine st_2 HO (.slice _ _ _) rfl rfl _ _ rfl (by repeat first | apply Sto.head | apply Sto.tail | apply Patch.put | apply Patch.skip | apply Patch.done) rfl ?_)); intro WB HOn; clear HO; have HO := HOn; clear HOn))
      | (go_at_call 17; refine (freeze_f _ _ _ _ _ _ _ _ _ _ _ _ _ _ _ _ _ _ _ _ _ _).mono ?_; rintro e wc ⟨rfl, hb⟩; have HOn := HO.below hb; clear HO hb; have HO := HOn; clear HOn))
  obtain ⟨n0, hn0⟩ := HO.names1
  subst hn0
  go_loopw [9] (fun i wr => ∃ (k c b : Nat) (A : Option Addr) (ws : List In), i = .int .i64 k ∧ k ≤ 256 ∧ Hid (ws.length = k) ∧ Hid (k ≤ c ∧ c ≤ maxLen) ∧ Hid (0 < k → A = some ⟨b, 0, none⟩) ∧ Hid (Own w wr [(n0, [i6 0, uw 0, .bool false, i6 0, .bool false, .bool false, i6 0, uw 0, .bool false, .bool true, .bool false, i6 0, i6 0, i6 0, i6 0, uw 0, i6 0, .bool false, .slice A k c])] [(b, 0, cellsR inL ws)])) (fun i _ => 256 - (intOf i).toNat)
  case atStart => exact ⟨0, 0, 0, none, [], rfl, by omega, Lib.hid rfl, Lib.hid ⟨by omega, by decide⟩, Lib.hid (fun h => by omega), Lib.hid (HO.push 0 0 [] (fun h => absurd rfl h))⟩
  case round =>
    clear HO
    obtain ⟨k, c, b, A, ws, rfl, hk, HW, HC, HA, HOH⟩ := hrel
    have HO := HOH.out
    clear HOH
    by_cases hlt : k < 256
    · have hki : (k : Int) < 256 := by omega
      go_upto_region 5 with fail
      refine wp_region_held_drew (S := (fun W => Blk W n0 [i6 0, uw 0, .bool false, i6 0, .bool false, .bool false, i6 0, uw 0, .bool false, .bool true, .bool false, i6 0, i6 0, i6 0, i6 0, uw 0, i6 0, .bool false, .slice A k c] ∧ True)) (by kernel_rfl) ?_ (fun hHeld => ?_)
      · (try dsimp only); have HOn := HO.drew; clear HO; have HO := HOn; exact ⟨HO.blk 0 _ _ rfl, trivial⟩
      have HOn := HO.drew; clear HO; have HO := HOn; clear HOn
      refine wpAnyH_take (i := 0) (oi := { dst := some 13, op := Op.load 32 (Operand.tmp 1), type := 32, pos := "law.go:210", after := #[], guard := none }) (v := .agg (List.toArray [i6 0, uw 0, .bool false, i6 0, .bool false, .bool false, i6 0, uw 0, .bool false, .bool true, .bool false, i6 0, i6 0, i6 0, i6 0, uw 0, i6 0, .bool false, .slice A k c])) rfl (by kernel_rfl) (by kernel_rfl) (by kernel_rfl) (fun _ _ _ h => h) (yieldsIf_load_mid (by rfl) _ _ rfl n0 0 rfl [i6 0, uw 0, .bool false, i6 0, .bool false, .bool false, i6 0, uw 0, .bool false, .bool true, .bool false, i6 0, i6 0, i6 0, i6 0, uw 0, i6 0, .bool false, .slice A k c] _ (fun w hSw => blk_range hSw.1 0 _ rfl) Try.underlying32 rfl oinfo_0) (by assumption) ?_
      try simp only [Act.put, List.setIfInBounds_toArray, List.set_cons_zero, List.set_cons_succ]
      refine wpAnyH_take (i := 1) (oi := { dst := some 14, op := Op.move (Operand.tmp 2), type := 3, pos := "law.go:210", after := #[], guard := none }) (v := ?_) rfl (by kernel_rfl) (by kernel_rfl) (by kernel_rfl) (fun _ _ _ h => h) (Or.inl ⟨by rfl, ?_⟩) (by assumption) ?_
      rotate_left
      · intro w hSw; (try dsimp only at hSw); go_simp; (try with_reducible rfl)
      try simp only [Act.put, List.setIfInBounds_toArray, List.set_cons_zero, List.set_cons_succ]
      refine wpAnyH_ready (rs := [2, 7]) (by kernel_rfl) (by simp) ?_
      refine AllReadyH.cons (o := { dst := some 15, op := Op.call { callee := Callee.value (Operand.func 21), args := #[Operand.tmp 14], argTypes := #[3] }, type := 29, pos := "law.go:210", after := #[{ on := 1, ground := Ground.data }], guard := none }) rfl (fun K hK => ?_) (AllReadyH.cons (o := { dst := some 3, op := Op.alloc 32, type := 0, pos := "law.go:210", after := #[], guard := none }) rfl (fun K hK => ?_) AllReadyH.nil)
      · go_simp
        go_at_call 21; refine (move_f _ _).mono ?_; rintro e wc ⟨rfl, hb⟩; have HOn := HO.below hb; clear HO hb; have HO := HOn; clear HOn
        clear hHeld
        refine hK.out _ _ ?_ (fun hHeld => ?_)
        · (try dsimp only); exact ⟨HO.blk 0 _ _ rfl, trivial⟩
        clear hK K
        try simp only [Act.put, List.setIfInBounds_toArray, List.set_cons_zero, List.set_cons_succ]
        refine wpAnyH_ready (rs := [3, 7]) (by kernel_rfl) (by simp) ?_
        refine AllReadyH.cons (o := { dst := some 16, op := Op.call { callee := Callee.value (Operand.func 9), args := #[Operand.tmp 13, Operand.tmp 15], argTypes := #[32, 29] }, type := 39, pos := "law.go:210", after := #[{ on := 0, ground := Ground.data }, { on := 2, ground := Ground.data }, { on := 2, ground := Ground.chain }], guard := none }) rfl (fun K hK => ?_) (AllReadyH.cons (o := { dst := some 3, op := Op.alloc 32, type := 0, pos := "law.go:210", after := #[], guard := none }) rfl (fun K hK => ?_) AllReadyH.nil)
        · go_simp
          go_at_call 9; refine (feed_at _ _ _ _ _ _ _ _ _ _ _ _ _ _ _ _ _ _ A k c ws b 0 _ _ _ _ _ _ _ HW.out HC.out.1 HC.out.2 HA.out (fun hne => ⟨(HO.rng 0 _ _ _ rfl hne).1, (HO.rng 0 _ _ _ rfl hne).2.1⟩) (by omega)).mono ?_; rintro e wc ⟨g1, cg1, rfl, hc1, hm1, hr1, hb⟩; have HOn := HO.noR.pushNew hb g1 0 _ (fun _ => hr1); clear HO hb; have HO := HOn; clear HOn
          clear hHeld
          refine hK.out _ _ ?_ (fun hHeld => ?_)
          · (try dsimp only); exact ⟨HO.blk 0 _ _ rfl, trivial⟩
          clear hK K
          try simp only [Act.put, List.setIfInBounds_toArray, List.set_cons_zero, List.set_cons_succ]
          refine wpAnyH_take (i := 4) (oi := { dst := some 12, op := Op.move (Operand.tmp 16), type := 39, pos := "law.go:210", after := #[{ on := 3, ground := Ground.data }], guard := none }) (v := ?_) rfl (by kernel_rfl) (by kernel_rfl) (by kernel_rfl) (fun _ _ _ h => h) (Or.inl ⟨by rfl, ?_⟩) (by assumption) ?_
          rotate_left
          · intro w hSw; (try dsimp only at hSw); go_simp; (try with_reducible rfl)
          try simp only [Act.put, List.setIfInBounds_toArray, List.set_cons_zero, List.set_cons_succ]
          refine wpAnyH_take (i := 5) (oi := { dst := some 17, op := Op.extract (Operand.tmp 12) 0, type := 32, pos := "law.go:210", after := #[{ on := 4, ground := Ground.data }], guard := none }) (v := ?_) rfl (by kernel_rfl) (by kernel_rfl) (by kernel_rfl) (fun _ _ _ h => h) (Or.inl ⟨by rfl, ?_⟩) (by assumption) ?_
          rotate_left
          · intro w hSw; (try dsimp only at hSw); go_simp; (try with_reducible rfl)
          try simp only [Act.put, List.setIfInBounds_toArray, List.set_cons_zero, List.set_cons_succ]
          refine wpAnyH_take (i := 6) (oi := { dst := some 18, op := Op.extract (Operand.tmp 12) 1, type := 38, pos := "law.go:210", after := #[{ on := 4, ground := Ground.data }, { on := 8, ground := Ground.gcOnly Departure.lateStores }], guard := none }) (v := ?_) rfl (by kernel_rfl) (by kernel_rfl) (by kernel_rfl) (fun _ _ _ h => h) (Or.inl ⟨by rfl, ?_⟩) (by assumption) ?_
          rotate_left
          · intro w hSw; (try dsimp only at hSw); go_simp; (try with_reducible rfl)
          try simp only [Act.put, List.setIfInBounds_toArray, List.set_cons_zero, List.set_cons_succ]
          refine wpAnyH_ready (rs := [7]) (by kernel_rfl) (by simp) ?_
          refine AllReadyH.cons (o := { dst := some 3, op := Op.alloc 32, type := 0, pos := "law.go:210", after := #[], guard := none }) rfl (fun K hK => ?_) AllReadyH.nil
          rw [if_pos (by rfl)]; refine wp_own_allocS 32 rfl HO _ ozero_0 ?_; intro nr1 WB HOn; (try simp only [List.cons_append, List.nil_append] at HOn); clear HO; have HO := HOn; clear HOn
          clear hHeld
          refine hK.out _ _ ?_ (fun hHeld => ?_)
          · (try dsimp only); exact ⟨HO.blk 0 _ _ rfl, trivial⟩
          clear hK K
          try simp only [Act.put, List.setIfInBounds_toArray, List.set_cons_zero, List.set_cons_succ]
          refine wpAnyH_ready (rs := [8]) (by kernel_rfl) (by simp) ?_
          refine AllReadyH.cons (o := { dst := none, op := Op.store 32 (Operand.tmp 3) (Operand.tmp 17), type := 0, pos := "law.go:210", after := #[{ on := 7, ground := Ground.data }, { on := 5, ground := Ground.data }, { on := 3, ground := Ground.chain }, { on := 0, ground := Ground.phase }, { on := 1, ground := Ground.phase }, { on := 2, ground := Ground.phase }, { on := 3, ground := Ground.phase }, { on := 4, ground := Ground.phase }, { on := 5, ground := Ground.phase }, { on := 6, ground := Ground.textOnly Departure.lateStores }, { on := 7, ground := Ground.phase }], guard := none }) rfl (fun K hK => ?_) AllReadyH.nil
          rw [if_pos (by rfl)]; refine wp_own_storeS 32 _ _ rfl HO 19 oinfo_0 1 _ 0 _ [i6 0, uw 0, .bool false, i6 0, .bool false, .bool false, i6 0, uw 0, .bool false, .bool true, .bool false, i6 0, i6 0, i6 0, i6 0, uw 0, i6 0, .bool false, .slice (some ⟨g1, 0, none⟩) (k + 1) cg1] rfl rfl rfl rfl [i6 0, uw 0, .bool false, i6 0, .bool false, .bool false, i6 0, uw 0, .bool false, .bool true, .bool false, i6 0, i6 0, i6 0, i6 0, uw 0, i6 0, .bool false, .slice (some ⟨g1, 0, none⟩) (k + 1) cg1] rfl (by simp) rfl ?_; intro WB HOn; (try simp only [List.set_cons_zero, List.set_cons_succ] at HOn); clear HO; have HO := HOn; clear HOn
          clear hHeld
          refine hK.out _ _ ?_ (fun hHeld => ?_)
          · (try dsimp only); exact ⟨HO.blk 0 _ _ rfl, trivial⟩
          clear hK K
          try simp only [Act.put, List.setIfInBounds_toArray, List.set_cons_zero, List.set_cons_succ]
          refine wpAnyH_take (i := 9) (oi := { dst := some 4, op := Op.assign (Operand.tmp 18), type := 38, pos := "law.go:210", after := #[{ on := 6, ground := Ground.data }, { on := 8, ground := Ground.chain }, { on := 0, ground := Ground.phase }, { on := 1, ground := Ground.phase }, { on := 2, ground := Ground.phase }, { on := 3, ground := Ground.phase }, { on := 4, ground := Ground.phase }, { on := 5, ground := Ground.phase }, { on := 6, ground := Ground.phase }, { on := 7, ground := Ground.phase }, { on := 8, ground := Ground.phase }], guard := none }) (v := ?_) rfl (by kernel_rfl) (by kernel_rfl) (by kernel_rfl) (fun _ _ _ h => h) (Or.inl ⟨by rfl, ?_⟩) (by assumption) ?_
          rotate_left
          · intro w hSw; (try dsimp only at hSw); go_simp; (try with_reducible rfl)
          try simp only [Act.put, List.setIfInBounds_toArray, List.set_cons_zero, List.set_cons_succ]
          refine wpAnyH_done (by kernel_rfl) ?_ _
          go_wp2_with (first
      | (with_reducible ((first | (refine own_at_box 32 ?_; refine ob_0 HO _ rfl ?_) | (refine own_at_alloc 32 ?_; refine oa_0 HO ?_) | (refine own_at_box 27 ?_; refine ob_1 HO _ rfl ?_) | (refine own_at_alloc 27 ?_; refine oa_1 HO ?_) | (refine own_at_box 29 ?_; refine ob_2 HO _ rfl ?_) | (refine own_at_alloc 29 ?_; refine oa_2 HO ?_) | (refine own_at_box 4 ?_; refine sb_0 HO (.bool _) rfl rfl ?_) | (refine own_at_alloc 4 ?_; refine sa_0 HO ?_) | (refine own_at_box 3 ?_; refine sb_1 HO (.int .i64 _) rfl rfl ?_) | (refine own_at_alloc 3 ?_; refine sa_1 HO ?_) | (refine own_at_box 30 ?_; refine sb_2 HO (.slice _ _ _) rfl rfl ?_) | (refine own_at_alloc 30 ?_; refine sa_2 HO ?_)); intro nB WB HOn; (try simp only [List.cons_append, List.nil_append] at HOn); clear HO; have HO := HOn; clear HOn))
      | (with_reducible (first | (refine own_at_load 32 ?_; refine op_0 HO rfl _ _ _ _ rfl (by repeat first | apply Has.head | apply Has.tail) (by repeat first | apply Part.done | apply Part.take | apply Part.skip) ?_) | (refine own_at_load 27 ?_; refine op_1 HO rfl _ _ _ _ rfl (by repeat first | apply Has.head | apply Has.tail) (by repeat first | apply Part.done | apply Part.take | apply Part.skip) ?_) | (refine own_at_load 29 ?_; refine op_2 HO rfl _ _ _ _ rfl (by repeat first | apply Has.head | apply Has.tail) (by repeat first | apply Part.done | apply Part.take | apply Part.skip) ?_) | (refine own_at_load 4 ?_; refine sl_0 HO rfl _ _ _ _ rfl (by repeat first | apply Has.head | apply Has.tail) rfl ?_) | (refine own_at_load 3 ?_; refine sl_1 HO rfl _ _ _ _ rfl (by repeat first | apply Has.head | apply Has.tail) rfl ?_) | (refine own_at_load 30 ?_; refine sl_2 HO rfl _ _ _ _ rfl (by repeat first | apply Has.head | apply Has.tail) rfl ?_)))
      | (with_reducible ((first | (refine own_at_store 32 ?_; refine os_0 HO _ rfl rfl _ _ rfl (by repeat first | apply Sto.head | apply Sto.tail | apply Patch.put | apply Patch.skip | apply Patch.done) rfl ?_) | (refine own_at_store 27 ?_; refine os_1 HO _ rfl rfl _ _ rfl (by repeat first | apply Sto.head | apply Sto.tail | apply Patch.put | apply Patch.skip | apply Patch.done) rfl ?_) | (refine own_at_store 29 ?_; refine os_2 HO _ rfl rfl _ _ rfl (by repeat first | apply Sto.head | apply Sto.tail | apply Patch.put | apply Patch.skip | apply Patch.done) rfl ?_) | (refine own_at_store 4 ?_; refine st_0 HO (.bool _) rfl rfl _ _ rfl (by repeat first | apply Sto.head | apply Sto.tail | apply Patch.put | apply Patch.skip | apply Patch.done) rfl ?_) | (refine own_at_store 3 ?_; refine st_1 HO (.int .i64 _) rfl rfl _ _ rfl (by repeat first | apply Sto.head | apply Sto.tail | apply Patch.put | apply Patch.skip | apply Patch.done) rfl ?_) | (refine own_at_store 30 ?_; refine st_2 HO (.slice _ _ _) rfl rfl _ _ rfl (by repeat first | apply Sto.head | apply Sto.tail | apply Patch.put | apply Patch.skip | apply Patch.done) rfl ?_)); intro WB HOn; clear HO; have HO := HOn; clear HOn)))
          go_roundw
          case rel => exact ⟨k + 1, cg1, g1, some ⟨g1, 0, none⟩, ws ++ [_], by go_num, by omega, Lib.hid (by rw [List.length_append, HW.out]; rfl), Lib.hid ⟨hc1, hm1⟩, Lib.hid (fun _ => rfl), Lib.hid (HO.takeL 1)⟩
          case measure => simp [intOf] <;> omega
        · rw [if_pos (by rfl)]; refine wp_own_allocS 32 rfl HO _ ozero_0 ?_; intro nr1 WB HOn; (try simp only [List.cons_append, List.nil_append] at HOn); clear HO; have HO := HOn; clear HOn
          clear hHeld
          refine hK.out _ _ ?_ (fun hHeld => ?_)
          · (try dsimp only); exact ⟨HO.blk 0 _ _ rfl, trivial⟩
          clear hK K
          try simp only [Act.put, List.setIfInBounds_toArray, List.set_cons_zero, List.set_cons_succ]
          refine wpAnyH_ready (rs := [3]) (by kernel_rfl) (by simp) ?_
          refine AllReadyH.cons (o := { dst := some 16, op := Op.call { callee := Callee.value (Operand.func 9), args := #[Operand.tmp 13, Operand.tmp 15], argTypes := #[32, 29] }, type := 39, pos := "law.go:210", after := #[{ on := 0, ground := Ground.data }, { on := 2, ground := Ground.data }, { on := 2, ground := Ground.chain }], guard := none }) rfl (fun K hK => ?_) AllReadyH.nil
          go_simp
          go_at_call 9; refine (feed_at _ _ _ _ _ _ _ _ _ _ _ _ _ _ _ _ _ _ A k c ws b 0 _ _ _ _ _ _ _ HW.out HC.out.1 HC.out.2 HA.out (fun hne => ⟨(HO.rng 0 _ _ _ rfl hne).1, (HO.rng 0 _ _ _ rfl hne).2.1⟩) (by omega)).mono ?_; rintro e wc ⟨g1, cg1, rfl, hc1, hm1, hr1, hb⟩; have HOn := HO.noR.pushNew hb g1 0 _ (fun _ => hr1); clear HO hb; have HO := HOn; clear HOn
          clear hHeld
          refine hK.out _ _ ?_ (fun hHeld => ?_)
          · (try dsimp only); exact ⟨HO.blk 0 _ _ rfl, trivial⟩
          clear hK K
          try simp only [Act.put, List.setIfInBounds_toArray, List.set_cons_zero, List.set_cons_succ]
          refine wpAnyH_take (i := 4) (oi := { dst := some 12, op := Op.move (Operand.tmp 16), type := 39, pos := "law.go:210", after := #[{ on := 3, ground := Ground.data }], guard := none }) (v := ?_) rfl (by kernel_rfl) (by kernel_rfl) (by kernel_rfl) (fun _ _ _ h => h) (Or.inl ⟨by rfl, ?_⟩) (by assumption) ?_
          rotate_left
          · intro w hSw; (try dsimp only at hSw); go_simp; (try with_reducible rfl)
          try simp only [Act.put, List.setIfInBounds_toArray, List.set_cons_zero, List.set_cons_succ]
          refine wpAnyH_take (i := 5) (oi := { dst := some 17, op := Op.extract (Operand.tmp 12) 0, type := 32, pos := "law.go:210", after := #[{ on := 4, ground := Ground.data }], guard := none }) (v := ?_) rfl (by kernel_rfl) (by kernel_rfl) (by kernel_rfl) (fun _ _ _ h => h) (Or.inl ⟨by rfl, ?_⟩) (by assumption) ?_
          rotate_left
          · intro w hSw; (try dsimp only at hSw); go_simp; (try with_reducible rfl)
          try simp only [Act.put, List.setIfInBounds_toArray, List.set_cons_zero, List.set_cons_succ]
          refine wpAnyH_take (i := 6) (oi := { dst := some 18, op := Op.extract (Operand.tmp 12) 1, type := 38, pos := "law.go:210", after := #[{ on := 4, ground := Ground.data }, { on := 8, ground := Ground.gcOnly Departure.lateStores }], guard := none }) (v := ?_) rfl (by kernel_rfl) (by kernel_rfl) (by kernel_rfl) (fun _ _ _ h => h) (Or.inl ⟨by rfl, ?_⟩) (by assumption) ?_
          rotate_left
          · intro w hSw; (try dsimp only at hSw); go_simp; (try with_reducible rfl)
          try simp only [Act.put, List.setIfInBounds_toArray, List.set_cons_zero, List.set_cons_succ]
          refine wpAnyH_ready (rs := [8]) (by kernel_rfl) (by simp) ?_
          refine AllReadyH.cons (o := { dst := none, op := Op.store 32 (Operand.tmp 3) (Operand.tmp 17), type := 0, pos := "law.go:210", after := #[{ on := 7, ground := Ground.data }, { on := 5, ground := Ground.data }, { on := 3, ground := Ground.chain }, { on := 0, ground := Ground.phase }, { on := 1, ground := Ground.phase }, { on := 2, ground := Ground.phase }, { on := 3, ground := Ground.phase }, { on := 4, ground := Ground.phase }, { on := 5, ground := Ground.phase }, { on := 6, ground := Ground.textOnly Departure.lateStores }, { on := 7, ground := Ground.phase }], guard := none }) rfl (fun K hK => ?_) AllReadyH.nil
          rw [if_pos (by rfl)]; refine wp_own_storeS 32 _ _ rfl HO 19 oinfo_0 1 _ 0 _ [i6 0, uw 0, .bool false, i6 0, .bool false, .bool false, i6 0, uw 0, .bool false, .bool true, .bool false, i6 0, i6 0, i6 0, i6 0, uw 0, i6 0, .bool false, .slice (some ⟨g1, 0, none⟩) (k + 1) cg1] rfl rfl rfl rfl [i6 0, uw 0, .bool false, i6 0, .bool false, .bool false, i6 0, uw 0, .bool false, .bool true, .bool false, i6 0, i6 0, i6 0, i6 0, uw 0, i6 0, .bool false, .slice (some ⟨g1, 0, none⟩) (k + 1) cg1] rfl (by simp) rfl ?_; intro WB HOn; (try simp only [List.set_cons_zero, List.set_cons_succ] at HOn); clear HO; have HO := HOn; clear HOn
          clear hHeld
          refine hK.out _ _ ?_ (fun hHeld => ?_)
          · (try dsimp only); exact ⟨HO.blk 0 _ _ rfl, trivial⟩
          clear hK K
          try simp only [Act.put, List.setIfInBounds_toArray, List.set_cons_zero, List.set_cons_succ]
          refine wpAnyH_take (i := 9) (oi := { dst := some 4, op := Op.assign (Operand.tmp 18), type := 38, pos := "law.go:210", after := #[{ on := 6, ground := Ground.data }, { on := 8, ground := Ground.chain }, { on := 0, ground := Ground.phase }, { on := 1, ground := Ground.phase }, { on := 2, ground := Ground.phase }, { on := 3, ground := Ground.phase }, { on := 4, ground := Ground.phase }, { on := 5, ground := Ground.phase }, { on := 6, ground := Ground.phase }, { on := 7, ground := Ground.phase }, { on := 8, ground := Ground.phase }], guard := none }) (v := ?_) rfl (by kernel_rfl) (by kernel_rfl) (by kernel_rfl) (fun _ _ _ h => h) (Or.inl ⟨by rfl, ?_⟩) (by assumption) ?_
          rotate_left
          · intro w hSw; (try dsimp only at hSw); go_simp; (try with_reducible rfl)
          try simp only [Act.put, List.setIfInBounds_toArray, List.set_cons_zero, List.set_cons_succ]
          refine wpAnyH_done (by kernel_rfl) ?_ _
          go_wp2_with (first
      | (with_reducible ((first | (refine own_at_box 32 ?_; refine ob_0 HO _ rfl ?_) | (refine own_at_alloc 32 ?_; refine oa_0 HO ?_) | (refine own_at_box 27 ?_; refine ob_1 HO _ rfl ?_) | (refine own_at_alloc 27 ?_; refine oa_1 HO ?_) | (refine own_at_box 29 ?_; refine ob_2 HO _ rfl ?_) | (refine own_at_alloc 29 ?_; refine oa_2 HO ?_) | (refine own_at_box 4 ?_; refine sb_0 HO (.bool _) rfl rfl ?_) | (refine own_at_alloc 4 ?_; refine sa_0 HO ?_) | (refine own_at_box 3 ?_; refine sb_1 HO (.int .i64 _) rfl rfl ?_) | (refine own_at_alloc 3 ?_; refine sa_1 HO ?_) | (refine own_at_box 30 ?_; refine sb_2 HO (.slice _ _ _) rfl rfl ?_) | (refine own_at_alloc 30 ?_; refine sa_2 HO ?_)); intro nB WB HOn; (try simp only [List.cons_append, List.nil_append] at HOn); clear HO; have HO := HOn; clear HOn))
      | (with_reducible (first | (refine own_at_load 32 ?_; refine op_0 HO rfl _ _ _ _ rfl (by repeat first | apply Has.head | apply Has.tail) (by repeat first | apply Part.done | apply Part.take | apply Part.skip) ?_) | (refine own_at_load 27 ?_; refine op_1 HO rfl _ _ _ _ rfl (by repeat first | apply Has.head | apply Has.tail) (by repeat first | apply Part.done | apply Part.take | apply Part.skip) ?_) | (refine own_at_load 29 ?_; refine op_2 HO rfl _ _ _ _ rfl (by repeat first | apply Has.head | apply Has.tail) (by repeat first | apply Part.done | apply Part.take | apply Part.skip) ?_) | (refine own_at_load 4 ?_; refine sl_0 HO rfl _ _ _ _ rfl (by repeat first | apply Has.head | apply Has.tail) rfl ?_) | (refine own_at_load 3 ?_; refine sl_1 HO rfl _ _ _ _ rfl (by repeat first | apply Has.head | apply Has.tail) rfl ?_) | (refine own_at_load 30 ?_; refine sl_2 HO rfl _ _ _ _ rfl (by repeat first | apply Has.head | apply Has.tail) rfl ?_)))
      | (with_reducible ((first | (refine own_at_store 32 ?_; refine os_0 HO _ rfl rfl _ _ rfl (by repeat first | apply Sto.head | apply Sto.tail | apply Patch.put | apply Patch.skip | apply Patch.done) rfl ?_) | (refine own_at_store 27 ?_; refine os_1 HO _ rfl rfl _ _ rfl (by repeat first | apply Sto.head | apply Sto.tail | apply Patch.put | apply Patch.skip | apply Patch.done) rfl ?_) | (refine own_at_store 29 ?_; refine os_2 HO _ rfl rfl _ _ rfl (by repeat first | apply Sto.head | apply Sto.tail | apply Patch.put | apply Patch.skip | apply Patch.done) rfl ?_) | (refine own_at_store 4 ?_; refine st_0 HO (.bool _) rfl rfl _ _ rfl (by repeat first | apply Sto.head | apply Sto.tail | apply Patch.put | apply Patch.skip | apply Patch.done) rfl ?_) | (refine own_at_store 3 ?_; refine st_1 HO (.int .i64 _) rfl rfl _ _ rfl (by repeat first | apply Sto.head | apply Sto.tail | apply Patch.put | apply Patch.skip | apply Patch.done) rfl ?_) | (refine own_at_store 30 ?_; refine st_2 HO (.slice _ _ _) rfl rfl _ _ rfl (by repeat first | apply Sto.head | apply Sto.tail | apply Patch.put | apply Patch.skip | apply Patch.done) rfl ?_)); intro WB HOn; clear HO; have HO := HOn; clear HOn)))
          go_roundw
          case rel => exact ⟨k + 1, cg1, g1, some ⟨g1, 0, none⟩, ws ++ [_], by go_num, by omega, Lib.hid (by rw [List.length_append, HW.out]; rfl), Lib.hid ⟨hc1, hm1⟩, Lib.hid (fun _ => rfl), Lib.hid (HO.takeL 1)⟩
          case measure => simp [intOf] <;> omega
      · rw [if_pos (by rfl)]; refine wp_own_allocS 32 rfl HO _ ozero_0 ?_; intro nr1 WB HOn; (try simp only [List.cons_append, List.nil_append] at HOn); clear HO; have HO := HOn; clear HOn
        clear hHeld
        refine hK.out _ _ ?_ (fun hHeld => ?_)
        · (try dsimp only); exact ⟨HO.blk 0 _ _ rfl, trivial⟩
        clear hK K
        try simp only [Act.put, List.setIfInBounds_toArray, List.set_cons_zero, List.set_cons_succ]
        refine wpAnyH_ready (rs := [2]) (by kernel_rfl) (by simp) ?_
        refine AllReadyH.cons (o := { dst := some 15, op := Op.call { callee := Callee.value (Operand.func 21), args := #[Operand.tmp 14], argTypes := #[3] }, type := 29, pos := "law.go:210", after := #[{ on := 1, ground := Ground.data }], guard := none }) rfl (fun K hK => ?_) AllReadyH.nil
        go_simp
        go_at_call 21; refine (move_f _ _).mono ?_; rintro e wc ⟨rfl, hb⟩; have HOn := HO.below hb; clear HO hb; have HO := HOn; clear HOn
        clear hHeld
        refine hK.out _ _ ?_ (fun hHeld => ?_)
        · (try dsimp only); exact ⟨HO.blk 0 _ _ rfl, trivial⟩
        clear hK K
        try simp only [Act.put, List.setIfInBounds_toArray, List.set_cons_zero, List.set_cons_succ]
        refine wpAnyH_ready (rs := [3]) (by kernel_rfl) (by simp) ?_
        refine AllReadyH.cons (o := { dst := some 16, op := Op.call { callee := Callee.value (Operand.func 9), args := #[Operand.tmp 13, Operand.tmp 15], argTypes := #[32, 29] }, type := 39, pos := "law.go:210", after := #[{ on := 0, ground := Ground.data }, { on := 2, ground := Ground.data }, { on := 2, ground := Ground.chain }], guard := none }) rfl (fun K hK => ?_) AllReadyH.nil
        go_simp
        go_at_call 9; refine (feed_at _ _ _ _ _ _ _ _ _ _ _ _ _ _ _ _ _ _ A k c ws b 0 _ _ _ _ _ _ _ HW.out HC.out.1 HC.out.2 HA.out (fun hne => ⟨(HO.rng 0 _ _ _ rfl hne).1, (HO.rng 0 _ _ _ rfl hne).2.1⟩) (by omega)).mono ?_; rintro e wc ⟨g1, cg1, rfl, hc1, hm1, hr1, hb⟩; have HOn := HO.noR.pushNew hb g1 0 _ (fun _ => hr1); clear HO hb; have HO := HOn; clear HOn
        clear hHeld
        refine hK.out _ _ ?_ (fun hHeld => ?_)
        · (try dsimp only); exact ⟨HO.blk 0 _ _ rfl, trivial⟩
        clear hK K
        try simp only [Act.put, List.setIfInBounds_toArray, List.set_cons_zero, List.set_cons_succ]
        refine wpAnyH_take (i := 4) (oi := { dst := some 12, op := Op.move (Operand.tmp 16), type := 39, pos := "law.go:210", after := #[{ on := 3, ground := Ground.data }], guard := none }) (v := ?_) rfl (by kernel_rfl) (by kernel_rfl) (by kernel_rfl) (fun _ _ _ h => h) (Or.inl ⟨by rfl, ?_⟩) (by assumption) ?_
        rotate_left
        · intro w hSw; (try dsimp only at hSw); go_simp; (try with_reducible rfl)
        try simp only [Act.put, List.setIfInBounds_toArray, List.set_cons_zero, List.set_cons_succ]
        refine wpAnyH_take (i := 5) (oi := { dst := some 17, op := Op.extract (Operand.tmp 12) 0, type := 32, pos := "law.go:210", after := #[{ on := 4, ground := Ground.data }], guard := none }) (v := ?_) rfl (by kernel_rfl) (by kernel_rfl) (by kernel_rfl) (fun _ _ _ h => h) (Or.inl ⟨by rfl, ?_⟩) (by assumption) ?_
        rotate_left
        · intro w hSw; (try dsimp only at hSw); go_simp; (try with_reducible rfl)
        try simp only [Act.put, List.setIfInBounds_toArray, List.set_cons_zero, List.set_cons_succ]
        refine wpAnyH_take (i := 6) (oi := { dst := some 18, op := Op.extract (Operand.tmp 12) 1, type := 38, pos := "law.go:210", after := #[{ on := 4, ground := Ground.data }, { on := 8, ground := Ground.gcOnly Departure.lateStores }], guard := none }) (v := ?_) rfl (by kernel_rfl) (by kernel_rfl) (by kernel_rfl) (fun _ _ _ h => h) (Or.inl ⟨by rfl, ?_⟩) (by assumption) ?_
        rotate_left
        · intro w hSw; (try dsimp only at hSw); go_simp; (try with_reducible rfl)
        try simp only [Act.put, List.setIfInBounds_toArray, List.set_cons_zero, List.set_cons_succ]
        refine wpAnyH_ready (rs := [8]) (by kernel_rfl) (by simp) ?_
        refine AllReadyH.cons (o := { dst := none, op := Op.store 32 (Operand.tmp 3) (Operand.tmp 17), type := 0, pos := "law.go:210", after := #[{ on := 7, ground := Ground.data }, { on := 5, ground := Ground.data }, { on := 3, ground := Ground.chain }, { on := 0, ground := Ground.phase }, { on := 1, ground := Ground.phase }, { on := 2, ground := Ground.phase }, { on := 3, ground := Ground.phase }, { on := 4, ground := Ground.phase }, { on := 5, ground := Ground.phase }, { on := 6, ground := Ground.textOnly Departure.lateStores }, { on := 7, ground := Ground.phase }], guard := none }) rfl (fun K hK => ?_) AllReadyH.nil
        rw [if_pos (by rfl)]; refine wp_own_storeS 32 _ _ rfl HO 19 oinfo_0 1 _ 0 _ [i6 0, uw 0, .bool false, i6 0, .bool false, .bool false, i6 0, uw 0, .bool false, .bool true, .bool false, i6 0, i6 0, i6 0, i6 0, uw 0, i6 0, .bool false, .slice (some ⟨g1, 0, none⟩) (k + 1) cg1] rfl rfl rfl rfl [i6 0, uw 0, .bool false, i6 0, .bool false, .bool false, i6 0, uw 0, .bool false, .bool true, .bool false, i6 0, i6 0, i6 0, i6 0, uw 0, i6 0, .bool false, .slice (some ⟨g1, 0, none⟩) (k + 1) cg1] rfl (by simp) rfl ?_; intro WB HOn; (try simp only [List.set_cons_zero, List.set_cons_succ] at HOn); clear HO; have HO := HOn; clear HOn
        clear hHeld
        refine hK.out _ _ ?_ (fun hHeld => ?_)
        · (try dsimp only); exact ⟨HO.blk 0 _ _ rfl, trivial⟩
        clear hK K
        try simp only [Act.put, List.setIfInBounds_toArray, List.set_cons_zero, List.set_cons_succ]
        refine wpAnyH_take (i := 9) (oi := { dst := some 4, op := Op.assign (Operand.tmp 18), type := 38, pos := "law.go:210", after := #[{ on := 6, ground := Ground.data }, { on := 8, ground := Ground.chain }, { on := 0, ground := Ground.phase }, { on := 1, ground := Ground.phase }, { on := 2, ground := Ground.phase }, { on := 3, ground := Ground.phase }, { on := 4, ground := Ground.phase }, { on := 5, ground := Ground.phase }, { on := 6, ground := Ground.phase }, { on := 7, ground := Ground.phase }, { on := 8, ground := Ground.phase }], guard := none }) (v := ?_) rfl (by kernel_rfl) (by kernel_rfl) (by kernel_rfl) (fun _ _ _ h => h) (Or.inl ⟨by rfl, ?_⟩) (by assumption) ?_
        rotate_left
        · intro w hSw; (try dsimp only at hSw); go_simp; (try with_reducible rfl)
        try simp only [Act.put, List.setIfInBounds_toArray, List.set_cons_zero, List.set_cons_succ]
        refine wpAnyH_done (by kernel_rfl) ?_ _
        go_wp2_with (first
      | (with_reducible ((first | (refine own_at_box 32 ?_; refine ob_0 HO _ rfl ?_) | (refine own_at_alloc 32 ?_; refine oa_0 HO ?_) | (refine own_at_box 27 ?_; refine ob_1 HO _ rfl ?_) | (refine own_at_alloc 27 ?_; refine oa_1 HO ?_) | (refine own_at_box 29 ?_; refine ob_2 HO _ rfl ?_) | (refine own_at_alloc 29 ?_; refine oa_2 HO ?_) | (refine own_at_box 4 ?_; refine sb_0 HO (.bool _) rfl rfl ?_) | (refine own_at_alloc 4 ?_; refine sa_0 HO ?_) | (refine own_at_box 3 ?_; refine sb_1 HO (.int .i64 _) rfl rfl ?_) | (refine own_at_alloc 3 ?_; refine sa_1 HO ?_) | (refine own_at_box 30 ?_; refine sb_2 HO (.slice _ _ _) rfl rfl ?_) | (refine own_at_alloc 30 ?_; refine sa_2 HO ?_)); intro nB WB HOn; (try simp only [List.cons_append, List.nil_append] at HOn); clear HO; have HO := HOn; clear HOn))
      | (with_reducible (first | (refine own_at_load 32 ?_; refine op_0 HO rfl _ _ _ _ rfl (by repeat first | apply Has.head | apply Has.tail) (by repeat first | apply Part.done | apply Part.take | apply Part.skip) ?_) | (refine own_at_load 27 ?_; refine op_1 HO rfl _ _ _ _ rfl (by repeat first | apply Has.head | apply Has.tail) (by repeat first | apply Part.done | apply Part.take | apply Part.skip) ?_) | (refine own_at_load 29 ?_; refine op_2 HO rfl _ _ _ _ rfl (by repeat first | apply Has.head | apply Has.tail) (by repeat first | apply Part.done | apply Part.take | apply Part.skip) ?_) | (refine own_at_load 4 ?_; refine sl_0 HO rfl _ _ _ _ rfl (by repeat first | apply Has.head | apply Has.tail) rfl ?_) | (refine own_at_load 3 ?_; refine sl_1 HO rfl _ _ _ _ rfl (by repeat first | apply Has.head | apply Has.tail) rfl ?_) | (refine own_at_load 30 ?_; refine sl_2 HO rfl _ _ _ _ rfl (by repeat first | apply Has.head | apply Has.tail) rfl ?_)))
      | (with_reducible ((first | (refine own_at_store 32 ?_; refine os_0 HO _ rfl rfl _ _ rfl (by repeat first | apply Sto.head | apply Sto.tail | apply Patch.put | apply Patch.skip | apply Patch.done) rfl ?_) | (refine own_at_store 27 ?_; refine os_1 HO _ rfl rfl _ _ rfl (by repeat first | apply Sto.head | apply Sto.tail | apply Patch.put | apply Patch.skip | apply Patch.done) rfl ?_) | (refine own_at_store 29 ?_; refine os_2 HO _ rfl rfl _ _ rfl (by repeat first | apply Sto.head | apply Sto.tail | apply Patch.put | apply Patch.skip | apply Patch.done) rfl ?_) | (refine own_at_store 4 ?_; refine st_0 HO (.bool _) rfl rfl _ _ rfl (by repeat first | apply Sto.head | apply Sto.tail | apply Patch.put | apply Patch.skip | apply Patch.done) rfl ?_) | (refine own_at_store 3 ?_; refine st_1 HO (.int .i64 _) rfl rfl _ _ rfl (by repeat first | apply Sto.head | apply Sto.tail | apply Patch.put | apply Patch.skip | apply Patch.done) rfl ?_) | (refine own_at_store 30 ?_; refine st_2 HO (.slice _ _ _) rfl rfl _ _ rfl (by repeat first | apply Sto.head | apply Sto.tail | apply Patch.put | apply Patch.skip | apply Patch.done) rfl ?_)); intro WB HOn; clear HO; have HO := HOn; clear HOn)))
        go_roundw
        case rel => exact ⟨k + 1, cg1, g1, some ⟨g1, 0, none⟩, ws ++ [_], by go_num, by omega, Lib.hid (by rw [List.length_append, HW.out]; rfl), Lib.hid ⟨hc1, hm1⟩, Lib.hid (fun _ => rfl), Lib.hid (HO.takeL 1)⟩
        case measure => simp [intOf] <;> omega
    · obtain rfl : k = 256 := by omega
      go_upto_region 10 with fail
      refine wp_region_held_drew (S := (fun W => Blk W n0 [i6 0, uw 0, .bool false, i6 0, .bool false, .bool false, i6 0, uw 0, .bool false, .bool true, .bool false, i6 0, i6 0, i6 0, i6 0, uw 0, i6 0, .bool false, .slice A 256 c] ∧ True)) (by kernel_rfl) ?_ (fun hHeld => ?_)
      · (try dsimp only); have HOn := HO.drew; clear HO; have HO := HOn; exact ⟨HO.blk 0 _ _ rfl, trivial⟩
      have HOn := HO.drew; clear HO; have HO := HOn; clear HOn
      refine wpAnyH_take (i := 0) (oi := { dst := some 24, op := Op.load 32 (Operand.tmp 1), type := 32, pos := "law.go:216", after := #[], guard := none }) (v := .agg (List.toArray [i6 0, uw 0, .bool false, i6 0, .bool false, .bool false, i6 0, uw 0, .bool false, .bool true, .bool false, i6 0, i6 0, i6 0, i6 0, uw 0, i6 0, .bool false, .slice A 256 c])) rfl (by kernel_rfl) (by kernel_rfl) (by kernel_rfl) (fun _ _ _ h => h) (yieldsIf_load_mid (by rfl) _ _ rfl n0 0 rfl [i6 0, uw 0, .bool false, i6 0, .bool false, .bool false, i6 0, uw 0, .bool false, .bool true, .bool false, i6 0, i6 0, i6 0, i6 0, uw 0, i6 0, .bool false, .slice A 256 c] _ (fun w hSw => blk_range hSw.1 0 _ rfl) Try.underlying32 rfl oinfo_0) (by assumption) ?_
      try simp only [Act.put, List.setIfInBounds_toArray, List.set_cons_zero, List.set_cons_succ]
      refine wpAnyH_ready (rs := [1, 6]) (by kernel_rfl) (by simp) ?_
      refine AllReadyH.cons (o := { dst := some 25, op := Op.call { callee := Callee.value (Operand.func 21), args := #[Operand.const (Value.int IntKind.i64 256)], argTypes := #[3] }, type := 29, pos := "law.go:216", after := #[], guard := none }) rfl (fun K hK => ?_) (AllReadyH.cons (o := { dst := some 5, op := Op.alloc 32, type := 0, pos := "law.go:216", after := #[], guard := none }) rfl (fun K hK => ?_) AllReadyH.nil)
      · go_simp
        go_at_call 21; refine (move_f _ _).mono ?_; rintro e wc ⟨rfl, hb⟩; have HOn := HO.below hb; clear HO hb; have HO := HOn; clear HOn
        clear hHeld
        refine hK.out _ _ ?_ (fun hHeld => ?_)
        · (try dsimp only); exact ⟨HO.blk 0 _ _ rfl, trivial⟩
        clear hK K
        try simp only [Act.put, List.setIfInBounds_toArray, List.set_cons_zero, List.set_cons_succ]
        refine wpAnyH_ready (rs := [2, 6]) (by kernel_rfl) (by simp) ?_
        refine AllReadyH.cons (o := { dst := some 26, op := Op.call { callee := Callee.value (Operand.func 9), args := #[Operand.tmp 24, Operand.tmp 25], argTypes := #[32, 29] }, type := 39, pos := "law.go:216", after := #[{ on := 0, ground := Ground.data }, { on := 1, ground := Ground.data }, { on := 1, ground := Ground.chain }], guard := none }) rfl (fun K hK => ?_) (AllReadyH.cons (o := { dst := some 5, op := Op.alloc 32, type := 0, pos := "law.go:216", after := #[], guard := none }) rfl (fun K hK => ?_) AllReadyH.nil)
        · go_simp
          go_at_call 9; refine (feed_full_at _ _ _ _ _ _ _ _ _ _ _ _ _ _ _ _ _ _ A 256 c ws b 0 _ _ _ _ _ _ _ HW.out (by omega) (by omega)).mono ?_; rintro e wc ⟨rfl, hb⟩; have HOn := HO.below hb; clear HO hb; have HO := HOn; clear HOn
          clear hHeld
          refine hK.out _ _ ?_ (fun hHeld => ?_)
          · (try dsimp only); exact ⟨HO.blk 0 _ _ rfl, trivial⟩
          clear hK K
          try simp only [Act.put, List.setIfInBounds_toArray, List.set_cons_zero, List.set_cons_succ]
          refine wpAnyH_take (i := 3) (oi := { dst := some 23, op := Op.move (Operand.tmp 26), type := 39, pos := "law.go:216", after := #[{ on := 2, ground := Ground.data }], guard := none }) (v := ?_) rfl (by kernel_rfl) (by kernel_rfl) (by kernel_rfl) (fun _ _ _ h => h) (Or.inl ⟨by rfl, ?_⟩) (by assumption) ?_
          rotate_left
          · intro w hSw; (try dsimp only at hSw); go_simp; (try with_reducible rfl)
          try simp only [Act.put, List.setIfInBounds_toArray, List.set_cons_zero, List.set_cons_succ]
          refine wpAnyH_take (i := 4) (oi := { dst := some 27, op := Op.extract (Operand.tmp 23) 0, type := 32, pos := "law.go:216", after := #[{ on := 3, ground := Ground.data }], guard := none }) (v := ?_) rfl (by kernel_rfl) (by kernel_rfl) (by kernel_rfl) (fun _ _ _ h => h) (Or.inl ⟨by rfl, ?_⟩) (by assumption) ?_
          rotate_left
          · intro w hSw; (try dsimp only at hSw); go_simp; (try with_reducible rfl)
          try simp only [Act.put, List.setIfInBounds_toArray, List.set_cons_zero, List.set_cons_succ]
          refine wpAnyH_take (i := 5) (oi := { dst := some 28, op := Op.extract (Operand.tmp 23) 1, type := 38, pos := "law.go:216", after := #[{ on := 3, ground := Ground.data }, { on := 7, ground := Ground.gcOnly Departure.lateStores }], guard := none }) (v := ?_) rfl (by kernel_rfl) (by kernel_rfl) (by kernel_rfl) (fun _ _ _ h => h) (Or.inl ⟨by rfl, ?_⟩) (by assumption) ?_
          rotate_left
          · intro w hSw; (try dsimp only at hSw); go_simp; (try with_reducible rfl)
          try simp only [Act.put, List.setIfInBounds_toArray, List.set_cons_zero, List.set_cons_succ]
          refine wpAnyH_ready (rs := [6]) (by kernel_rfl) (by simp) ?_
          refine AllReadyH.cons (o := { dst := some 5, op := Op.alloc 32, type := 0, pos := "law.go:216", after := #[], guard := none }) rfl (fun K hK => ?_) AllReadyH.nil
          rw [if_pos (by rfl)]; refine wp_own_allocS 32 rfl HO _ ozero_0 ?_; intro nr1 WB HOn; (try simp only [List.cons_append, List.nil_append] at HOn); clear HO; have HO := HOn; clear HOn
          clear hHeld
          refine hK.out _ _ ?_ (fun hHeld => ?_)
          · (try dsimp only); exact ⟨HO.blk 0 _ _ rfl, trivial⟩
          clear hK K
          try simp only [Act.put, List.setIfInBounds_toArray, List.set_cons_zero, List.set_cons_succ]
          refine wpAnyH_ready (rs := [7]) (by kernel_rfl) (by simp) ?_
          refine AllReadyH.cons (o := { dst := none, op := Op.store 32 (Operand.tmp 5) (Operand.tmp 27), type := 0, pos := "law.go:216", after := #[{ on := 6, ground := Ground.data }, { on := 4, ground := Ground.data }, { on := 2, ground := Ground.chain }, { on := 0, ground := Ground.phase }, { on := 1, ground := Ground.phase }, { on := 2, ground := Ground.phase }, { on := 3, ground := Ground.phase }, { on := 4, ground := Ground.phase }, { on := 5, ground := Ground.textOnly Departure.lateStores }, { on := 6, ground := Ground.phase }], guard := none }) rfl (fun K hK => ?_) AllReadyH.nil
          rw [if_pos (by rfl)]; refine wp_own_storeS 32 _ _ rfl HO 19 oinfo_0 1 _ 0 _ [i6 0, uw 0, .bool false, i6 0, .bool false, .bool false, i6 0, uw 0, .bool false, .bool true, .bool false, i6 0, i6 0, i6 0, i6 0, uw 0, i6 0, .bool false, .slice A 256 c] rfl rfl rfl rfl [i6 0, uw 0, .bool false, i6 0, .bool false, .bool false, i6 0, uw 0, .bool false, .bool true, .bool false, i6 0, i6 0, i6 0, i6 0, uw 0, i6 0, .bool false, .slice A 256 c] rfl (by simp) rfl ?_; intro WB HOn; (try simp only [List.set_cons_zero, List.set_cons_succ] at HOn); clear HO; have HO := HOn; clear HOn
          clear hHeld
          refine hK.out _ _ ?_ (fun hHeld => ?_)
          · (try dsimp only); exact ⟨HO.blk 0 _ _ rfl, trivial⟩
          clear hK K
          try simp only [Act.put, List.setIfInBounds_toArray, List.set_cons_zero, List.set_cons_succ]
          refine wpAnyH_take (i := 8) (oi := { dst := some 6, op := Op.assign (Operand.tmp 28), type := 38, pos := "law.go:216", after := #[{ on := 5, ground := Ground.data }, { on := 7, ground := Ground.chain }, { on := 0, ground := Ground.phase }, { on := 1, ground := Ground.phase }, { on := 2, ground := Ground.phase }, { on := 3, ground := Ground.phase }, { on := 4, ground := Ground.phase }, { on := 5, ground := Ground.phase }, { on := 6, ground := Ground.phase }, { on := 7, ground := Ground.phase }], guard := none }) (v := ?_) rfl (by kernel_rfl) (by kernel_rfl) (by kernel_rfl) (fun _ _ _ h => h) (Or.inl ⟨by rfl, ?_⟩) (by assumption) ?_
          rotate_left
          · intro w hSw; (try dsimp only at hSw); go_simp; (try with_reducible rfl)
          try simp only [Act.put, List.setIfInBounds_toArray, List.set_cons_zero, List.set_cons_succ]
          refine wpAnyH_done (by kernel_rfl) ?_ _
          go_wp2_with (first
      | (with_reducible ((first | (refine own_at_box 32 ?_; refine ob_0 HO _ rfl ?_) | (refine own_at_alloc 32 ?_; refine oa_0 HO ?_) | (refine own_at_box 27 ?_; refine ob_1 HO _ rfl ?_) | (refine own_at_alloc 27 ?_; refine oa_1 HO ?_) | (refine own_at_box 29 ?_; refine ob_2 HO _ rfl ?_) | (refine own_at_alloc 29 ?_; refine oa_2 HO ?_) | (refine own_at_box 4 ?_; refine sb_0 HO (.bool _) rfl rfl ?_) | (refine own_at_alloc 4 ?_; refine sa_0 HO ?_) | (refine own_at_box 3 ?_; refine sb_1 HO (.int .i64 _) rfl rfl ?_) | (refine own_at_alloc 3 ?_; refine sa_1 HO ?_) | (refine own_at_box 30 ?_; refine sb_2 HO (.slice _ _ _) rfl rfl ?_) | (refine own_at_alloc 30 ?_; refine sa_2 HO ?_)); intro nB WB HOn; (try simp only [List.cons_append, List.nil_append] at HOn); clear HO; have HO := HOn; clear HOn))
      | (with_reducible (first | (refine own_at_load 32 ?_; refine op_0 HO rfl _ _ _ _ rfl (by repeat first | apply Has.head | apply Has.tail) (by repeat first | apply Part.done | apply Part.take | apply Part.skip) ?_) | (refine own_at_load 27 ?_; refine op_1 HO rfl _ _ _ _ rfl (by repeat first | apply Has.head | apply Has.tail) (by repeat first | apply Part.done | apply Part.take | apply Part.skip) ?_) | (refine own_at_load 29 ?_; refine op_2 HO rfl _ _ _ _ rfl (by repeat first | apply Has.head | apply Has.tail) (by repeat first | apply Part.done | apply Part.take | apply Part.skip) ?_) | (refine own_at_load 4 ?_; refine sl_0 HO rfl _ _ _ _ rfl (by repeat first | apply Has.head | apply Has.tail) rfl ?_) | (refine own_at_load 3 ?_; refine sl_1 HO rfl _ _ _ _ rfl (by repeat first | apply Has.head | apply Has.tail) rfl ?_) | (refine own_at_load 30 ?_; refine sl_2 HO rfl _ _ _ _ rfl (by repeat first | apply Has.head | apply Has.tail) rfl ?_)))
      | (with_reducible ((first | (refine own_at_store 32 ?_; refine os_0 HO _ rfl rfl _ _ rfl (by repeat first | apply Sto.head | apply Sto.tail | apply Patch.put | apply Patch.skip | apply Patch.done) rfl ?_) | (refine own_at_store 27 ?_; refine os_1 HO _ rfl rfl _ _ rfl (by repeat first | apply Sto.head | apply Sto.tail | apply Patch.put | apply Patch.skip | apply Patch.done) rfl ?_) | (refine own_at_store 29 ?_; refine os_2 HO _ rfl rfl _ _ rfl (by repeat first | apply Sto.head | apply Sto.tail | apply Patch.put | apply Patch.skip | apply Patch.done) rfl ?_) | (refine own_at_store 4 ?_; refine st_0 HO (.bool _) rfl rfl _ _ rfl (by repeat first | apply Sto.head | apply Sto.tail | apply Patch.put | apply Patch.skip | apply Patch.done) rfl ?_) | (refine own_at_store 3 ?_; refine st_1 HO (.int .i64 _) rfl rfl _ _ rfl (by repeat first | apply Sto.head | apply Sto.tail | apply Patch.put | apply Patch.skip | apply Patch.done) rfl ?_) | (refine own_at_store 30 ?_; refine st_2 HO (.slice _ _ _) rfl rfl _ _ rfl (by repeat first | apply Sto.head | apply Sto.tail | apply Patch.put | apply Patch.skip | apply Patch.done) rfl ?_)); intro WB HOn; clear HO; have HO := HOn; clear HOn))
      | (go_at_call 14; refine (frozen_f _ _ _ _ _ _ _ _ _ _ _ _ _ _ _ _ _ _ _ _ _ _).mono ?_; rintro e wc ⟨rfl, hb⟩; have HOn := HO.below hb; clear HO hb; have HO := HOn; clear HOn)
      | (go_at_call 8; refine (awake39 _).mono ?_; rintro e wc ⟨rfl, hb⟩; have HOn := HO.below hb; clear HO hb; have HO := HOn; clear HOn)
      | (go_at_call 19; refine (waiting_at _ _ _ _ _ _ _ _ _ _ _ _ _ _ _ _ _ _ A 256 c ws b 0 _ HW.out HC.out.1 HC.out.2 HA.out (fun hne => ⟨(HO.rng 0 _ _ _ rfl hne).1, (HO.rng 0 _ _ _ rfl hne).2.1⟩) (by omega)).mono ?_; rintro e wc ⟨v9, rfl, ho9, hb⟩; obtain ⟨A9, c9, rfl⟩ := row_sl ho9; clear ho9; have HOn := HO.below hb; clear HO hb; have HO := HOn; clear HOn))
          go_returns
          exact ⟨by first | rfl | (simp; done), HO.q⟩
        · rw [if_pos (by rfl)]; refine wp_own_allocS 32 rfl HO _ ozero_0 ?_; intro nr1 WB HOn; (try simp only [List.cons_append, List.nil_append] at HOn); clear HO; have HO := HOn; clear HOn
          clear hHeld
          refine hK.out _ _ ?_ (fun hHeld => ?_)
          · (try dsimp only); exact ⟨HO.blk 0 _ _ rfl, trivial⟩
          clear hK K
          try simp only [Act.put, List.setIfInBounds_toArray, List.set_cons_zero, List.set_cons_succ]
          refine wpAnyH_ready (rs := [2]) (by kernel_rfl) (by simp) ?_
          refine AllReadyH.cons (o := { dst := some 26, op := Op.call { callee := Callee.value (Operand.func 9), args := #[Operand.tmp 24, Operand.tmp 25], argTypes := #[32, 29] }, type := 39, pos := "law.go:216", after := #[{ on := 0, ground := Ground.data }, { on := 1, ground := Ground.data }, { on := 1, ground := Ground.chain }], guard := none }) rfl (fun K hK => ?_) AllReadyH.nil
          go_simp
          go_at_call 9; refine (feed_full_at _ _ _ _ _ _ _ _ _ _ _ _ _ _ _ _ _ _ A 256 c ws b 0 _ _ _ _ _ _ _ HW.out (by omega) (by omega)).mono ?_; rintro e wc ⟨rfl, hb⟩; have HOn := HO.below hb; clear HO hb; have HO := HOn; clear HOn
          clear hHeld
          refine hK.out _ _ ?_ (fun hHeld => ?_)
          · (try dsimp only); exact ⟨HO.blk 0 _ _ rfl, trivial⟩
          clear hK K
          try simp only [Act.put, List.setIfInBounds_toArray, List.set_cons_zero, List.set_cons_succ]
          refine wpAnyH_take (i := 3) (oi := { dst := some 23, op := Op.move (Operand.tmp 26), type := 39, pos := "law.go:216", after := #[{ on := 2, ground := Ground.data }], guard := none }) (v := ?_) rfl (by kernel_rfl) (by kernel_rfl) (by kernel_rfl) (fun _ _ _ h => h) (Or.inl ⟨by rfl, ?_⟩) (by assumption) ?_
          rotate_left
          · intro w hSw; (try dsimp only at hSw); go_simp; (try with_reducible rfl)
          try simp only [Act.put, List.setIfInBounds_toArray, List.set_cons_zero, List.set_cons_succ]
          refine wpAnyH_take (i := 4) (oi := { dst := some 27, op := Op.extract (Operand.tmp 23) 0, type := 32, pos := "law.go:216", after := #[{ on := 3, ground := Ground.data }], guard := none }) (v := ?_) rfl (by kernel_rfl) (by kernel_rfl) (by kernel_rfl) (fun _ _ _ h => h) (Or.inl ⟨by rfl, ?_⟩) (by assumption) ?_
          rotate_left
          · intro w hSw; (try dsimp only at hSw); go_simp; (try with_reducible rfl)
          try simp only [Act.put, List.setIfInBounds_toArray, List.set_cons_zero, List.set_cons_succ]
          refine wpAnyH_take (i := 5) (oi := { dst := some 28, op := Op.extract (Operand.tmp 23) 1, type := 38, pos := "law.go:216", after := #[{ on := 3, ground := Ground.data }, { on := 7, ground := Ground.gcOnly Departure.lateStores }], guard := none }) (v := ?_) rfl (by kernel_rfl) (by kernel_rfl) (by kernel_rfl) (fun _ _ _ h => h) (Or.inl ⟨by rfl, ?_⟩) (by assumption) ?_
          rotate_left
          · intro w hSw; (try dsimp only at hSw); go_simp; (try with_reducible rfl)
          try simp only [Act.put, List.setIfInBounds_toArray, List.set_cons_zero, List.set_cons_succ]
          refine wpAnyH_ready (rs := [7]) (by kernel_rfl) (by simp) ?_
          refine AllReadyH.cons (o := { dst := none, op := Op.store 32 (Operand.tmp 5) (Operand.tmp 27), type := 0, pos := "law.go:216", after := #[{ on := 6, ground := Ground.data }, { on := 4, ground := Ground.data }, { on := 2, ground := Ground.chain }, { on := 0, ground := Ground.phase }, { on := 1, ground := Ground.phase }, { on := 2, ground := Ground.phase }, { on := 3, ground := Ground.phase }, { on := 4, ground := Ground.phase }, { on := 5, ground := Ground.textOnly Departure.lateStores }, { on := 6, ground := Ground.phase }], guard := none }) rfl (fun K hK => ?_) AllReadyH.nil
          rw [if_pos (by rfl)]; refine wp_own_storeS 32 _ _ rfl HO 19 oinfo_0 1 _ 0 _ [i6 0, uw 0, .bool false, i6 0, .bool false, .bool false, i6 0, uw 0, .bool false, .bool true, .bool false, i6 0, i6 0, i6 0, i6 0, uw 0, i6 0, .bool false, .slice A 256 c] rfl rfl rfl rfl [i6 0, uw 0, .bool false, i6 0, .bool false, .bool false, i6 0, uw 0, .bool false, .bool true, .bool false, i6 0, i6 0, i6 0, i6 0, uw 0, i6 0, .bool false, .slice A 256 c] rfl (by simp) rfl ?_; intro WB HOn; (try simp only [List.set_cons_zero, List.set_cons_succ] at HOn); clear HO; have HO := HOn; clear HOn
          clear hHeld
          refine hK.out _ _ ?_ (fun hHeld => ?_)
          · (try dsimp only); exact ⟨HO.blk 0 _ _ rfl, trivial⟩
          clear hK K
          try simp only [Act.put, List.setIfInBounds_toArray, List.set_cons_zero, List.set_cons_succ]
          refine wpAnyH_take (i := 8) (oi := { dst := some 6, op := Op.assign (Operand.tmp 28), type := 38, pos := "law.go:216", after := #[{ on := 5, ground := Ground.data }, { on := 7, ground := Ground.chain }, { on := 0, ground := Ground.phase }, { on := 1, ground := Ground.phase }, { on := 2, ground := Ground.phase }, { on := 3, ground := Ground.phase }, { on := 4, ground := Ground.phase }, { on := 5, ground := Ground.phase }, { on := 6, ground := Ground.phase }, { on := 7, ground := Ground.phase }], guard := none }) (v := ?_) rfl (by kernel_rfl) (by kernel_rfl) (by kernel_rfl) (fun _ _ _ h => h) (Or.inl ⟨by rfl, ?_⟩) (by assumption) ?_
          rotate_left
          · intro w hSw; (try dsimp only at hSw); go_simp; (try with_reducible rfl)
          try simp only [Act.put, List.setIfInBounds_toArray, List.set_cons_zero, List.set_cons_succ]
          refine wpAnyH_done (by kernel_rfl) ?_ _
          go_wp2_with (first
      | (with_reducible ((first | (refine own_at_box 32 ?_; refine ob_0 HO _ rfl ?_) | (refine own_at_alloc 32 ?_; refine oa_0 HO ?_) | (refine own_at_box 27 ?_; refine ob_1 HO _ rfl ?_) | (refine own_at_alloc 27 ?_; refine oa_1 HO ?_) | (refine own_at_box 29 ?_; refine ob_2 HO _ rfl ?_) | (refine own_at_alloc 29 ?_; refine oa_2 HO ?_) | (refine own_at_box 4 ?_; refine sb_0 HO (.bool _) rfl rfl ?_) | (refine own_at_alloc 4 ?_; refine sa_0 HO ?_) | (refine own_at_box 3 ?_; refine sb_1 HO (.int .i64 _) rfl rfl ?_) | (refine own_at_alloc 3 ?_; refine sa_1 HO ?_) | (refine own_at_box 30 ?_; refine sb_2 HO (.slice _ _ _) rfl rfl ?_) | (refine own_at_alloc 30 ?_; refine sa_2 HO ?_)); intro nB WB HOn; (try simp only [List.cons_append, List.nil_append] at HOn); clear HO; have HO := HOn; clear HOn))
      | (with_reducible (first | (refine own_at_load 32 ?_; refine op_0 HO rfl _ _ _ _ rfl (by repeat first | apply Has.head | apply Has.tail) (by repeat first | apply Part.done | apply Part.take | apply Part.skip) ?_) | (refine own_at_load 27 ?_; refine op_1 HO rfl _ _ _ _ rfl (by repeat first | apply Has.head | apply Has.tail) (by repeat first | apply Part.done | apply Part.take | apply Part.skip) ?_) | (refine own_at_load 29 ?_; refine op_2 HO rfl _ _ _ _ rfl (by repeat first | apply Has.head | apply Has.tail) (by repeat first | apply Part.done | apply Part.take | apply Part.skip) ?_) | (refine own_at_load 4 ?_; refine sl_0 HO rfl _ _ _ _ rfl (by repeat first | apply Has.head | apply Has.tail) rfl ?_) | (refine own_at_load 3 ?_; refine sl_1 HO rfl _ _ _ _ rfl (by repeat first | apply Has.head | apply Has.tail) rfl ?_) | (refine own_at_load 30 ?_; refine sl_2 HO rfl _ _ _ _ rfl (by repeat first | apply Has.head | apply Has.tail) rfl ?_)))
      | (with_reducible ((first | (refine own_at_store 32 ?_; refine os_0 HO _ rfl rfl _ _ rfl (by repeat first | apply Sto.head | apply Sto.tail | apply Patch.put | apply Patch.skip | apply Patch.done) rfl ?_) | (refine own_at_store 27 ?_; refine os_1 HO _ rfl rfl _ _ rfl (by repeat first | apply Sto.head | apply Sto.tail | apply Patch.put | apply Patch.skip | apply Patch.done) rfl ?_) | (refine own_at_store 29 ?_; refine os_2 HO _ rfl rfl _ _ rfl (by repeat first | apply Sto.head | apply Sto.tail | apply Patch.put | apply Patch.skip | apply Patch.done) rfl ?_) | (refine own_at_store 4 ?_; refine st_0 HO (.bool _) rfl rfl _ _ rfl (by repeat first | apply Sto.head | apply Sto.tail | apply Patch.put | apply Patch.skip | apply Patch.done) rfl ?_) | (refine own_at_store 3 ?_; refine st_1 HO (.int .i64 _) rfl rfl _ _ rfl (by repeat first | apply Sto.head | apply Sto.tail | apply Patch.put | apply Patch.skip | apply Patch.done) rfl ?_) | (refine own_at_store 30 ?_; refine st_2 HO (.slice _ _ _) rfl rfl _ _ rfl (by repeat first | apply Sto.head | apply Sto.tail | apply Patch.put | apply Patch.skip | apply Patch.done) rfl ?_)); intro WB HOn; clear HO; have HO := HOn; clear HOn))
      | (go_at_call 14; refine (frozen_f _ _ _ _ _ _ _ _ _ _ _ _ _ _ _ _ _ _ _ _ _ _).mono ?_; rintro e wc ⟨rfl, hb⟩; have HOn := HO.below hb; clear HO hb; have HO := HOn; clear HOn)
      | (go_at_call 8; refine (awake39 _).mono ?_; rintro e wc ⟨rfl, hb⟩; have HOn := HO.below hb; clear HO hb; have HO := HOn; clear HOn)
      | (go_at_call 19; refine (waiting_at _ _ _ _ _ _ _ _ _ _ _ _ _ _ _ _ _ _ A 256 c ws b 0 _ HW.out HC.out.1 HC.out.2 HA.out (fun hne => ⟨(HO.rng 0 _ _ _ rfl hne).1, (HO.rng 0 _ _ _ rfl hne).2.1⟩) (by omega)).mono ?_; rintro e wc ⟨v9, rfl, ho9, hb⟩; obtain ⟨A9, c9, rfl⟩ := row_sl ho9; clear ho9; have HOn := HO.below hb; clear HO hb; have HO := HOn; clear HOn))
          go_returns
          exact ⟨by first | rfl | (simp; done), HO.q⟩
      · rw [if_pos (by rfl)]; refine wp_own_allocS 32 rfl HO _ ozero_0 ?_; intro nr1 WB HOn; (try simp only [List.cons_append, List.nil_append] at HOn); clear HO; have HO := HOn; clear HOn
        clear hHeld
        refine hK.out _ _ ?_ (fun hHeld => ?_)
        · (try dsimp only); exact ⟨HO.blk 0 _ _ rfl, trivial⟩
        clear hK K
        try simp only [Act.put, List.setIfInBounds_toArray, List.set_cons_zero, List.set_cons_succ]
        refine wpAnyH_ready (rs := [1]) (by kernel_rfl) (by simp) ?_
        refine AllReadyH.cons (o := { dst := some 25, op := Op.call { callee := Callee.value (Operand.func 21), args := #[Operand.const (Value.int IntKind.i64 256)], argTypes := #[3] }, type := 29, pos := "law.go:216", after := #[], guard := none }) rfl (fun K hK => ?_) AllReadyH.nil
        go_simp
        go_at_call 21; refine (move_f _ _).mono ?_; rintro e wc ⟨rfl, hb⟩; have HOn := HO.below hb; clear HO hb; have HO := HOn; clear HOn
        clear hHeld
        refine hK.out _ _ ?_ (fun hHeld => ?_)
        · (try dsimp only); exact ⟨HO.blk 0 _ _ rfl, trivial⟩
        clear hK K
        try simp only [Act.put, List.setIfInBounds_toArray, List.set_cons_zero, List.set_cons_succ]
        refine wpAnyH_ready (rs := [2]) (by kernel_rfl) (by simp) ?_
        refine AllReadyH.cons (o := { dst := some 26, op := Op.call { callee := Callee.value (Operand.func 9), args := #[Operand.tmp 24, Operand.tmp 25], argTypes := #[32, 29] }, type := 39, pos := "law.go:216", after := #[{ on := 0, ground := Ground.data }, { on := 1, ground := Ground.data }, { on := 1, ground := Ground.chain }], guard := none }) rfl (fun K hK => ?_) AllReadyH.nil
        go_simp
        go_at_call 9; refine (feed_full_at _ _ _ _ _ _ _ _ _ _ _ _ _ _ _ _ _ _ A 256 c ws b 0 _ _ _ _ _ _ _ HW.out (by omega) (by omega)).mono ?_; rintro e wc ⟨rfl, hb⟩; have HOn := HO.below hb; clear HO hb; have HO := HOn; clear HOn
        clear hHeld
        refine hK.out _ _ ?_ (fun hHeld => ?_)
        · (try dsimp only); exact ⟨HO.blk 0 _ _ rfl, trivial⟩
        clear hK K
        try simp only [Act.put, List.setIfInBounds_toArray, List.set_cons_zero, List.set_cons_succ]
        refine wpAnyH_take (i := 3) (oi := { dst := some 23, op := Op.move (Operand.tmp 26), type := 39, pos := "law.go:216", after := #[{ on := 2, ground := Ground.data }], guard := none }) (v := ?_) rfl (by kernel_rfl) (by kernel_rfl) (by kernel_rfl) (fun _ _ _ h => h) (Or.inl ⟨by rfl, ?_⟩) (by assumption) ?_
        rotate_left
        · intro w hSw; (try dsimp only at hSw); go_simp; (try with_reducible rfl)
        try simp only [Act.put, List.setIfInBounds_toArray, List.set_cons_zero, List.set_cons_succ]
        refine wpAnyH_take (i := 4) (oi := { dst := some 27, op := Op.extract (Operand.tmp 23) 0, type := 32, pos := "law.go:216", after := #[{ on := 3, ground := Ground.data }], guard := none }) (v := ?_) rfl (by kernel_rfl) (by kernel_rfl) (by kernel_rfl) (fun _ _ _ h => h) (Or.inl ⟨by rfl, ?_⟩) (by assumption) ?_
        rotate_left
        · intro w hSw; (try dsimp only at hSw); go_simp; (try with_reducible rfl)
        try simp only [Act.put, List.setIfInBounds_toArray, List.set_cons_zero, List.set_cons_succ]
        refine wpAnyH_take (i := 5) (oi := { dst := some 28, op := Op.extract (Operand.tmp 23) 1, type := 38, pos := "law.go:216", after := #[{ on := 3, ground := Ground.data }, { on := 7, ground := Ground.gcOnly Departure.lateStores }], guard := none }) (v := ?_) rfl (by kernel_rfl) (by kernel_rfl) (by kernel_rfl) (fun _ _ _ h => h) (Or.inl ⟨by rfl, ?_⟩) (by assumption) ?_
        rotate_left
        · intro w hSw; (try dsimp only at hSw); go_simp; (try with_reducible rfl)
        try simp only [Act.put, List.setIfInBounds_toArray, List.set_cons_zero, List.set_cons_succ]
        refine wpAnyH_ready (rs := [7]) (by kernel_rfl) (by simp) ?_
        refine AllReadyH.cons (o := { dst := none, op := Op.store 32 (Operand.tmp 5) (Operand.tmp 27), type := 0, pos := "law.go:216", after := #[{ on := 6, ground := Ground.data }, { on := 4, ground := Ground.data }, { on := 2, ground := Ground.chain }, { on := 0, ground := Ground.phase }, { on := 1, ground := Ground.phase }, { on := 2, ground := Ground.phase }, { on := 3, ground := Ground.phase }, { on := 4, ground := Ground.phase }, { on := 5, ground := Ground.textOnly Departure.lateStores }, { on := 6, ground := Ground.phase }], guard := none }) rfl (fun K hK => ?_) AllReadyH.nil
        rw [if_pos (by rfl)]; refine wp_own_storeS 32 _ _ rfl HO 19 oinfo_0 1 _ 0 _ [i6 0, uw 0, .bool false, i6 0, .bool false, .bool false, i6 0, uw 0, .bool false, .bool true, .bool false, i6 0, i6 0, i6 0, i6 0, uw 0, i6 0, .bool false, .slice A 256 c] rfl rfl rfl rfl [i6 0, uw 0, .bool false, i6 0, .bool false, .bool false, i6 0, uw 0, .bool false, .bool true, .bool false, i6 0, i6 0, i6 0, i6 0, uw 0, i6 0, .bool false, .slice A 256 c] rfl (by simp) rfl ?_; intro WB HOn; (try simp only [List.set_cons_zero, List.set_cons_succ] at HOn); clear HO; have HO := HOn; clear HOn
        clear hHeld
        refine hK.out _ _ ?_ (fun hHeld => ?_)
        · (try dsimp only); exact ⟨HO.blk 0 _ _ rfl, trivial⟩
        clear hK K
        try simp only [Act.put, List.setIfInBounds_toArray, List.set_cons_zero, List.set_cons_succ]
        refine wpAnyH_take (i := 8) (oi := { dst := some 6, op := Op.assign (Operand.tmp 28), type := 38, pos := "law.go:216", after := #[{ on := 5, ground := Ground.data }, { on := 7, ground := Ground.chain }, { on := 0, ground := Ground.phase }, { on := 1, ground := Ground.phase }, { on := 2, ground := Ground.phase }, { on := 3, ground := Ground.phase }, { on := 4, ground := Ground.phase }, { on := 5, ground := Ground.phase }, { on := 6, ground := Ground.phase }, { on := 7, ground := Ground.phase }], guard := none }) (v := ?_) rfl (by kernel_rfl) (by kernel_rfl) (by kernel_rfl) (fun _ _ _ h => h) (Or.inl ⟨by rfl, ?_⟩) (by assumption) ?_
        rotate_left
        · intro w hSw; (try dsimp only at hSw); go_simp; (try with_reducible rfl)
        try simp only [Act.put, List.setIfInBounds_toArray, List.set_cons_zero, List.set_cons_succ]
        refine wpAnyH_done (by kernel_rfl) ?_ _
        go_wp2_with (first
      | (with_reducible ((first | (refine own_at_box 32 ?_; refine ob_0 HO _ rfl ?_) | (refine own_at_alloc 32 ?_; refine oa_0 HO ?_) | (refine own_at_box 27 ?_; refine ob_1 HO _ rfl ?_) | (refine own_at_alloc 27 ?_; refine oa_1 HO ?_) | (refine own_at_box 29 ?_; refine ob_2 HO _ rfl ?_) | (refine own_at_alloc 29 ?_; refine oa_2 HO ?_) | (refine own_at_box 4 ?_; refine sb_0 HO (.bool _) rfl rfl ?_) | (refine own_at_alloc 4 ?_; refine sa_0 HO ?_) | (refine own_at_box 3 ?_; refine sb_1 HO (.int .i64 _) rfl rfl ?_) | (refine own_at_alloc 3 ?_; refine sa_1 HO ?_) | (refine own_at_box 30 ?_; refine sb_2 HO (.slice _ _ _) rfl rfl ?_) | (refine own_at_alloc 30 ?_; refine sa_2 HO ?_)); intro nB WB HOn; (try simp only [List.cons_append, List.nil_append] at HOn); clear HO; have HO := HOn; clear HOn))
      | (with_reducible (first | (refine own_at_load 32 ?_; refine op_0 HO rfl _ _ _ _ rfl (by repeat first | apply Has.head | apply Has.tail) (by repeat first | apply Part.done | apply Part.take | apply Part.skip) ?_) | (refine own_at_load 27 ?_; refine op_1 HO rfl _ _ _ _ rfl (by repeat first | apply Has.head | apply Has.tail) (by repeat first | apply Part.done | apply Part.take | apply Part.skip) ?_) | (refine own_at_load 29 ?_; refine op_2 HO rfl _ _ _ _ rfl (by repeat first | apply Has.head | apply Has.tail) (by repeat first | apply Part.done | apply Part.take | apply Part.skip) ?_) | (refine own_at_load 4 ?_; refine sl_0 HO rfl _ _ _ _ rfl (by repeat first | apply Has.head | apply Has.tail) rfl ?_) | (refine own_at_load 3 ?_; refine sl_1 HO rfl _ _ _ _ rfl (by repeat first | apply Has.head | apply Has.tail) rfl ?_) | (refine own_at_load 30 ?_; refine sl_2 HO rfl _ _ _ _ rfl (by repeat first | apply Has.head | apply Has.tail) rfl ?_)))
      | (with_reducible ((first | (refine own_at_store 32 ?_; refine os_0 HO _ rfl rfl _ _ rfl (by repeat first | apply Sto.head | apply Sto.tail | apply Patch.put | apply Patch.skip | apply Patch.done) rfl ?_) | (refine own_at_store 27 ?_; refine os_1 HO _ rfl rfl _ _ rfl (by repeat first | apply Sto.head | apply Sto.tail | apply Patch.put | apply Patch.skip | apply Patch.done) rfl ?_) | (refine own_at_store 29 ?_; refine os_2 HO _ rfl rfl _ _ rfl (by repeat first | apply Sto.head | apply Sto.tail | apply Patch.put | apply Patch.skip | apply Patch.done) rfl ?_) | (refine own_at_store 4 ?_; refine st_0 HO (.bool _) rfl rfl _ _ rfl (by repeat first | apply Sto.head | apply Sto.tail | apply Patch.put | apply Patch.skip | apply Patch.done) rfl ?_) | (refine own_at_store 3 ?_; refine st_1 HO (.int .i64 _) rfl rfl _ _ rfl (by repeat first | apply Sto.head | apply Sto.tail | apply Patch.put | apply Patch.skip | apply Patch.done) rfl ?_) | (refine own_at_store 30 ?_; refine st_2 HO (.slice _ _ _) rfl rfl _ _ rfl (by repeat first | apply Sto.head | apply Sto.tail | apply Patch.put | apply Patch.skip | apply Patch.done) rfl ?_)); intro WB HOn; clear HO; have HO := HOn; clear HOn))
      | (go_at_call 14; refine (frozen_f _ _ _ _ _ _ _ _ _ _ _ _ _ _ _ _ _ _ _ _ _ _).mono ?_; rintro e wc ⟨rfl, hb⟩; have HOn := HO.below hb; clear HO hb; have HO := HOn; clear HOn)
      | (go_at_call 8; refine (awake39 _).mono ?_; rintro e wc ⟨rfl, hb⟩; have HOn := HO.below hb; clear HO hb; have HO := HOn; clear HOn)
      | (go_at_call 19; refine (waiting_at _ _ _ _ _ _ _ _ _ _ _ _ _ _ _ _ _ _ A 256 c ws b 0 _ HW.out HC.out.1 HC.out.2 HA.out (fun hne => ⟨(HO.rng 0 _ _ _ rfl hne).1, (HO.rng 0 _ _ _ rfl hne).2.1⟩) (by omega)).mono ?_; rintro e wc ⟨v9, rfl, ho9, hb⟩; obtain ⟨A9, c9, rfl⟩ := row_sl ho9; clear ho9; have HOn := HO.below hb; clear HO hb; have HO := HOn; clear HOn))
        go_returns
        exact ⟨by first | rfl | (simp; done), HO.q⟩
end Go.Proofs.Ytgcedookbblibaa
