/- Layer 39: FreezeSteps' walk. -/
import Derived.Test.YtgcedookbblibaaFz10
import Derived.Test.YtgcedookbblibaaRow3
import Derived.Deep.CutRange
namespace Go.Proofs.Ytgcedookbblibaa
open Go Go.RowKit
set_option linter.unusedSimpArgs false
set_option linter.unusedVariables false
set_option maxRecDepth 100000 in
set_option maxHeartbeats 16000000 in
theorem lsteps39 (LA : Option Addr) (n lc : Nat) (ls : List In) (lb lo : Nat) (ex : Int) (w : World) (hn : ls.length = n) (hv : RowV (.slice LA n lc) n lb lo) (hr : cellsR inL ls ≠ [] → lb < w.heap.size ∧ w.rangeAt lb lo (cellsR inL ls)) (he : 0 ≤ ex ∧ ex ≤ 255) :
    Calls Try.prog 5 #[.slice LA n lc, .int .u8 ex] w fun e w' => e = .returned (.bool true) ∧ Below w.heap.size w w' := by
  obtain ⟨_, _, hsl, hnc, hcm, hLA⟩ := hv
  simp only [Value.slice.injEq] at hsl
  obtain ⟨rfl, -, rfl⟩ := hsl
  have HN := Lib.hid hn
  have HR0 := Lib.hid hr
  have HLA := Lib.hid hLA
  have HLC := Lib.hid (And.intro hnc hcm)
  obtain ⟨r, hr3, hrx⟩ : ∃ r : Nat, r < 3 ∧ ex.tmod 3 = (r : Int) := ⟨(ex.tmod 3).toNat, by rw [Int.tmod_eq_emod_of_nonneg he.1]; omega, by rw [Int.tmod_eq_emod_of_nonneg he.1]; omega⟩
  clear hn hr hLA hnc hcm
  go_enter Try.func5, Try.ntmps5
  have HO := (Own.nil w).pushArg lb lo (cellsR inL ls) HR0.out
  by_cases hgt : 60 < n
  · have hgi : (60 : Int) < (n : Int) := by omega
    clear hgt
    go_wp2_with (first
      | (with_reducible refine own_at_box 32 ?_; refine ob_0 HO _ rfl ?_; intro nB WB HOn; (try simp only [List.cons_append, List.nil_append] at HOn); clear HO; have HO := HOn; clear HOn)
      | (with_reducible refine own_at_alloc 32 ?_; refine oa_0 HO ?_; intro nB WB HOn; (try simp only [List.cons_append, List.nil_append] at HOn); clear HO; have HO := HOn; clear HOn)
      | (with_reducible refine own_at_load 32 ?_; first | refine ol_0 HO rfl _ _ rfl (by repeat first | apply Has.head | apply Has.tail) rfl ?_ | refine op_0 HO rfl _ _ _ _ rfl (by repeat first | apply Has.head | apply Has.tail) (by repeat first | apply Part.done | apply Part.take | apply Part.skip) ?_)
      | (with_reducible refine own_at_store 32 ?_; refine os_0 HO _ rfl rfl _ _ rfl (by repeat first | apply Sto.head | apply Sto.tail | apply Patch.put | apply Patch.skip | apply Patch.done) rfl ?_; intro WB HOn; clear HO; have HO := HOn; clear HOn)
      | (with_reducible refine own_at_box 27 ?_; refine ob_1 HO _ rfl ?_; intro nB WB HOn; (try simp only [List.cons_append, List.nil_append] at HOn); clear HO; have HO := HOn; clear HOn)
      | (with_reducible refine own_at_alloc 27 ?_; refine oa_1 HO ?_; intro nB WB HOn; (try simp only [List.cons_append, List.nil_append] at HOn); clear HO; have HO := HOn; clear HOn)
      | (with_reducible refine own_at_load 27 ?_; first | refine ol_1 HO rfl _ _ rfl (by repeat first | apply Has.head | apply Has.tail) rfl ?_ | refine op_1 HO rfl _ _ _ _ rfl (by repeat first | apply Has.head | apply Has.tail) (by repeat first | apply Part.done | apply Part.take | apply Part.skip) ?_)
      | (with_reducible refine own_at_store 27 ?_; refine os_1 HO _ rfl rfl _ _ rfl (by repeat first | apply Sto.head | apply Sto.tail | apply Patch.put | apply Patch.skip | apply Patch.done) rfl ?_; intro WB HOn; clear HO; have HO := HOn; clear HOn)
      | (with_reducible refine own_at_box 29 ?_; refine ob_2 HO _ rfl ?_; intro nB WB HOn; (try simp only [List.cons_append, List.nil_append] at HOn); clear HO; have HO := HOn; clear HOn)
      | (with_reducible refine own_at_alloc 29 ?_; refine oa_2 HO ?_; intro nB WB HOn; (try simp only [List.cons_append, List.nil_append] at HOn); clear HO; have HO := HOn; clear HOn)
      | (with_reducible refine own_at_load 29 ?_; first | refine ol_2 HO rfl _ _ rfl (by repeat first | apply Has.head | apply Has.tail) rfl ?_ | refine op_2 HO rfl _ _ _ _ rfl (by repeat first | apply Has.head | apply Has.tail) (by repeat first | apply Part.done | apply Part.take | apply Part.skip) ?_)
      | (with_reducible refine own_at_store 29 ?_; refine os_2 HO _ rfl rfl _ _ rfl (by repeat first | apply Sto.head | apply Sto.tail | apply Patch.put | apply Patch.skip | apply Patch.done) rfl ?_; intro WB HOn; clear HO; have HO := HOn; clear HOn)
      | (with_reducible refine own_at_box 4 ?_; refine sb_0 HO (.bool _) rfl rfl ?_; intro nB WB HOn; (try simp only [List.cons_append, List.nil_append] at HOn); clear HO; have HO := HOn; clear HOn)
      | (with_reducible refine own_at_alloc 4 ?_; refine sa_0 HO ?_; intro nB WB HOn; (try simp only [List.cons_append, List.nil_append] at HOn); clear HO; have HO := HOn; clear HOn)
      | (with_reducible refine own_at_load 4 ?_; refine sl_0 HO rfl _ _ _ _ rfl (by repeat first | apply Has.head | apply Has.tail) rfl ?_)
      | (with_reducible refine own_at_store 4 ?_; refine st_0 HO (.bool _) rfl rfl _ _ rfl (by repeat first | apply Sto.head | apply Sto.tail | apply Patch.put | apply Patch.skip | apply Patch.done) rfl ?_; intro WB HOn; clear HO; have HO := HOn; clear HOn)
      | (with_reducible refine own_at_box 3 ?_; refine sb_1 HO (.int .i64 _) rfl rfl ?_; intro nB WB HOn; (try simp only [List.cons_append, List.nil_append] at HOn); clear HO; have HO := HOn; clear HOn)
      | (with_reducible refine own_at_alloc 3 ?_; refine sa_1 HO ?_; intro nB WB HOn; (try simp only [List.cons_append, List.nil_append] at HOn); clear HO; have HO := HOn; clear HOn)
      | (with_reducible refine own_at_load 3 ?_; refine sl_1 HO rfl _ _ _ _ rfl (by repeat first | apply Has.head | apply Has.tail) rfl ?_)
      | (with_reducible refine own_at_store 3 ?_; refine st_1 HO (.int .i64 _) rfl rfl _ _ rfl (by repeat first | apply Sto.head | apply Sto.tail | apply Patch.put | apply Patch.skip | apply Patch.done) rfl ?_; intro WB HOn; clear HO; have HO := HOn; clear HOn)
      | (with_reducible refine own_at_box 30 ?_; refine sb_2 HO (.slice _ _ _) rfl rfl ?_; intro nB WB HOn; (try simp only [List.cons_append, List.nil_append] at HOn); clear HO; have HO := HOn; clear HOn)
      | (with_reducible refine own_at_alloc 30 ?_; refine sa_2 HO ?_; intro nB WB HOn; (try simp only [List.cons_append, List.nil_append] at HOn); clear HO; have HO := HOn; clear HOn)
      | (with_reducible refine own_at_load 30 ?_; refine sl_2 HO rfl _ _ _ _ rfl (by repeat first | apply Has.head | apply Has.tail) rfl ?_)
      | (with_reducible refine own_at_store 30 ?_; refine st_2 HO (.slice _ _ _) rfl rfl _ _ rfl (by repeat first | apply Sto.head | apply Sto.tail | apply Patch.put | apply Patch.skip | apply Patch.done) rfl ?_; intro WB HOn; clear HO; have HO := HOn; clear HOn)
      | (go_at_call 8; refine (awake39 _).mono ?_; rintro e wc ⟨rfl, hb⟩; have HOn := HO.below hb; clear HO hb; have HO := HOn; clear HOn))
    go_returns
    exact ⟨by first | rfl | (simp; done), HO.q⟩
  · have hgi : ¬ (60 : Int) < (n : Int) := by omega
    go_wp2_with (first
      | (with_reducible refine own_at_box 32 ?_; refine ob_0 HO _ rfl ?_; intro nB WB HOn; (try simp only [List.cons_append, List.nil_append] at HOn); clear HO; have HO := HOn; clear HOn)
      | (with_reducible refine own_at_alloc 32 ?_; refine oa_0 HO ?_; intro nB WB HOn; (try simp only [List.cons_append, List.nil_append] at HOn); clear HO; have HO := HOn; clear HOn)
      | (with_reducible refine own_at_load 32 ?_; first | refine ol_0 HO rfl _ _ rfl (by repeat first | apply Has.head | apply Has.tail) rfl ?_ | refine op_0 HO rfl _ _ _ _ rfl (by repeat first | apply Has.head | apply Has.tail) (by repeat first | apply Part.done | apply Part.take | apply Part.skip) ?_)
      | (with_reducible refine own_at_store 32 ?_; refine os_0 HO _ rfl rfl _ _ rfl (by repeat first | apply Sto.head | apply Sto.tail | apply Patch.put | apply Patch.skip | apply Patch.done) rfl ?_; intro WB HOn; clear HO; have HO := HOn; clear HOn)
      | (with_reducible refine own_at_box 27 ?_; refine ob_1 HO _ rfl ?_; intro nB WB HOn; (try simp only [List.cons_append, List.nil_append] at HOn); clear HO; have HO := HOn; clear HOn)
      | (with_reducible refine own_at_alloc 27 ?_; refine oa_1 HO ?_; intro nB WB HOn; (try simp only [List.cons_append, List.nil_append] at HOn); clear HO; have HO := HOn; clear HOn)
      | (with_reducible refine own_at_load 27 ?_; first | refine ol_1 HO rfl _ _ rfl (by repeat first | apply Has.head | apply Has.tail) rfl ?_ | refine op_1 HO rfl _ _ _ _ rfl (by repeat first | apply Has.head | apply Has.tail) (by repeat first | apply Part.done | apply Part.take | apply Part.skip) ?_)
      | (with_reducible refine own_at_store 27 ?_; refine os_1 HO _ rfl rfl _ _ rfl (by repeat first | apply Sto.head | apply Sto.tail | apply Patch.put | apply Patch.skip | apply Patch.done) rfl ?_; intro WB HOn; clear HO; have HO := HOn; clear HOn)
      | (with_reducible refine own_at_box 29 ?_; refine ob_2 HO _ rfl ?_; intro nB WB HOn; (try simp only [List.cons_append, List.nil_append] at HOn); clear HO; have HO := HOn; clear HOn)
      | (with_reducible refine own_at_alloc 29 ?_; refine oa_2 HO ?_; intro nB WB HOn; (try simp only [List.cons_append, List.nil_append] at HOn); clear HO; have HO := HOn; clear HOn)
      | (with_reducible refine own_at_load 29 ?_; first | refine ol_2 HO rfl _ _ rfl (by repeat first | apply Has.head | apply Has.tail) rfl ?_ | refine op_2 HO rfl _ _ _ _ rfl (by repeat first | apply Has.head | apply Has.tail) (by repeat first | apply Part.done | apply Part.take | apply Part.skip) ?_)
      | (with_reducible refine own_at_store 29 ?_; refine os_2 HO _ rfl rfl _ _ rfl (by repeat first | apply Sto.head | apply Sto.tail | apply Patch.put | apply Patch.skip | apply Patch.done) rfl ?_; intro WB HOn; clear HO; have HO := HOn; clear HOn)
      | (with_reducible refine own_at_box 4 ?_; refine sb_0 HO (.bool _) rfl rfl ?_; intro nB WB HOn; (try simp only [List.cons_append, List.nil_append] at HOn); clear HO; have HO := HOn; clear HOn)
      | (with_reducible refine own_at_alloc 4 ?_; refine sa_0 HO ?_; intro nB WB HOn; (try simp only [List.cons_append, List.nil_append] at HOn); clear HO; have HO := HOn; clear HOn)
      | (with_reducible refine own_at_load 4 ?_; refine sl_0 HO rfl _ _ _ _ rfl (by repeat first | apply Has.head | apply Has.tail) rfl ?_)
      | (with_reducible refine own_at_store 4 ?_; refine st_0 HO (.bool _) rfl rfl _ _ rfl (by repeat first | apply Sto.head | apply Sto.tail | apply Patch.put | apply Patch.skip | apply Patch.done) rfl ?_; intro WB HOn; clear HO; have HO := HOn; clear HOn)
      | (with_reducible refine own_at_box 3 ?_; refine sb_1 HO (.int .i64 _) rfl rfl ?_; intro nB WB HOn; (try simp only [List.cons_append, List.nil_append] at HOn); clear HO; have HO := HOn; clear HOn)
      | (with_reducible refine own_at_alloc 3 ?_; refine sa_1 HO ?_; intro nB WB HOn; (try simp only [List.cons_append, List.nil_append] at HOn); clear HO; have HO := HOn; clear HOn)
      | (with_reducible refine own_at_load 3 ?_; refine sl_1 HO rfl _ _ _ _ rfl (by repeat first | apply Has.head | apply Has.tail) rfl ?_)
      | (with_reducible refine own_at_store 3 ?_; refine st_1 HO (.int .i64 _) rfl rfl _ _ rfl (by repeat first | apply Sto.head | apply Sto.tail | apply Patch.put | apply Patch.skip | apply Patch.done) rfl ?_; intro WB HOn; clear HO; have HO := HOn; clear HOn)
      | (with_reducible refine own_at_box 30 ?_; refine sb_2 HO (.slice _ _ _) rfl rfl ?_; intro nB WB HOn; (try simp only [List.cons_append, List.nil_append] at HOn); clear HO; have HO := HOn; clear HOn)
      | (with_reducible refine own_at_alloc 30 ?_; refine sa_2 HO ?_; intro nB WB HOn; (try simp only [List.cons_append, List.nil_append] at HOn); clear HO; have HO := HOn; clear HOn)
      | (with_reducible refine own_at_load 30 ?_; refine sl_2 HO rfl _ _ _ _ rfl (by repeat first | apply Has.head | apply Has.tail) rfl ?_)
      | (with_reducible refine own_at_store 30 ?_; refine st_2 HO (.slice _ _ _) rfl rfl _ _ rfl (by repeat first | apply Sto.head | apply Sto.tail | apply Patch.put | apply Patch.skip | apply Patch.done) rfl ?_; intro WB HOn; clear HO; have HO := HOn; clear HOn)
      | (go_at_call 15; refine (begin_f _ _ _ _ _ _ _ _ _ _ _ _ _ _ _ _ _ _ _ _ _ _ _ _ _ _ _ _ _ _ _).mono ?_; rintro e wc ⟨rfl, hb⟩; have HOn := HO.below hb; clear HO hb; have HO := HOn; clear HOn))
    obtain ⟨n0, hn0⟩ := HO.names1
    subst hn0
    go_loopw [24] (fun i wr => ∃ (k c b : Nat) (A : Option Addr), i = .int .i64 k ∧ k ≤ n ∧ Hid ((ls.take k).length = k) ∧ Hid (k ≤ c ∧ c ≤ maxLen) ∧ Hid (0 < k → A = some ⟨b, 0, none⟩) ∧ Hid (Own w wr [(n0, [i6 1, uw 0, .bool false, i6 0, .bool false, .bool false, i6 0, uw 0, .bool true, .bool true, .bool false, i6 0, i6 0, i6 0, i6 0, uw 0, i6 0, .bool false, .slice A k c])] [(b, 0, cellsR inL (ls.take k)), (lb, lo, cellsR inL ls)])) (fun i _ => n - (intOf i).toNat)
    case atStart => exact ⟨0, 0, 0, none, rfl, by omega, Lib.hid rfl, Lib.hid ⟨by omega, by decide⟩, Lib.hid (fun h => by omega), Lib.hid (HO.push 0 0 [] (fun h => absurd rfl h))⟩
    case round =>
      clear HO
      obtain ⟨k, c, b, A, rfl, hk, HW, HC, HA, HOH⟩ := hrel
      have HO := HOH.out
      clear HOH
      by_cases hlt : k < n
      · have hki : (k : Int) < n := by omega
        obtain ⟨x, hx⟩ : ∃ x, ls[k]? = some x := ⟨_, List.getElem?_eq_getElem (by rw [HN.out]; exact hlt)⟩
        obtain rfl : LA = some ⟨lb, lo, none⟩ := HLA.out (by omega)
        obtain ⟨x0, x1, x2, x3, x4, x5⟩ := x
        have HX := Lib.hid hx
        have htk : ls.take (k + 1) = ls.take k ++ [⟨x0, x1, x2, x3, x4, x5⟩] := by rw [List.take_add_one, hx]; rfl
        have HTK := Lib.hid htk
        clear hx htk
        go_wp2_with (first
      | (with_reducible refine own_at_box 32 ?_; refine ob_0 HO _ rfl ?_; intro nB WB HOn; (try simp only [List.cons_append, List.nil_append] at HOn); clear HO; have HO := HOn; clear HOn)
      | (with_reducible refine own_at_alloc 32 ?_; refine oa_0 HO ?_; intro nB WB HOn; (try simp only [List.cons_append, List.nil_append] at HOn); clear HO; have HO := HOn; clear HOn)
      | (with_reducible refine own_at_load 32 ?_; first | refine ol_0 HO rfl _ _ rfl (by repeat first | apply Has.head | apply Has.tail) rfl ?_ | refine op_0 HO rfl _ _ _ _ rfl (by repeat first | apply Has.head | apply Has.tail) (by repeat first | apply Part.done | apply Part.take | apply Part.skip) ?_)
      | (with_reducible refine own_at_store 32 ?_; refine os_0 HO _ rfl rfl _ _ rfl (by repeat first | apply Sto.head | apply Sto.tail | apply Patch.put | apply Patch.skip | apply Patch.done) rfl ?_; intro WB HOn; clear HO; have HO := HOn; clear HOn)
      | (with_reducible refine own_at_box 27 ?_; refine ob_1 HO _ rfl ?_; intro nB WB HOn; (try simp only [List.cons_append, List.nil_append] at HOn); clear HO; have HO := HOn; clear HOn)
      | (with_reducible refine own_at_alloc 27 ?_; refine oa_1 HO ?_; intro nB WB HOn; (try simp only [List.cons_append, List.nil_append] at HOn); clear HO; have HO := HOn; clear HOn)
      | (with_reducible refine own_at_load 27 ?_; first | refine ol_1 HO rfl _ _ rfl (by repeat first | apply Has.head | apply Has.tail) rfl ?_ | refine op_1 HO rfl _ _ _ _ rfl (by repeat first | apply Has.head | apply Has.tail) (by repeat first | apply Part.done | apply Part.take | apply Part.skip) ?_)
      | (with_reducible refine own_at_store 27 ?_; refine os_1 HO _ rfl rfl _ _ rfl (by repeat first | apply Sto.head | apply Sto.tail | apply Patch.put | apply Patch.skip | apply Patch.done) rfl ?_; intro WB HOn; clear HO; have HO := HOn; clear HOn)
      | (with_reducible refine own_at_box 29 ?_; refine ob_2 HO _ rfl ?_; intro nB WB HOn; (try simp only [List.cons_append, List.nil_append] at HOn); clear HO; have HO := HOn; clear HOn)
      | (with_reducible refine own_at_alloc 29 ?_; refine oa_2 HO ?_; intro nB WB HOn; (try simp only [List.cons_append, List.nil_append] at HOn); clear HO; have HO := HOn; clear HOn)
      | (with_reducible refine own_at_load 29 ?_; first | refine ol_2 HO rfl _ _ rfl (by repeat first | apply Has.head | apply Has.tail) rfl ?_ | refine op_2 HO rfl _ _ _ _ rfl (by repeat first | apply Has.head | apply Has.tail) (by repeat first | apply Part.done | apply Part.take | apply Part.skip) ?_)
      | (with_reducible refine own_at_store 29 ?_; refine os_2 HO _ rfl rfl _ _ rfl (by repeat first | apply Sto.head | apply Sto.tail | apply Patch.put | apply Patch.skip | apply Patch.done) rfl ?_; intro WB HOn; clear HO; have HO := HOn; clear HOn)
      | (with_reducible refine own_at_box 4 ?_; refine sb_0 HO (.bool _) rfl rfl ?_; intro nB WB HOn; (try simp only [List.cons_append, List.nil_append] at HOn); clear HO; have HO := HOn; clear HOn)
      | (with_reducible refine own_at_alloc 4 ?_; refine sa_0 HO ?_; intro nB WB HOn; (try simp only [List.cons_append, List.nil_append] at HOn); clear HO; have HO := HOn; clear HOn)
      | (with_reducible refine own_at_load 4 ?_; refine sl_0 HO rfl _ _ _ _ rfl (by repeat first | apply Has.head | apply Has.tail) rfl ?_)
      | (with_reducible refine own_at_store 4 ?_; refine st_0 HO (.bool _) rfl rfl _ _ rfl (by repeat first | apply Sto.head | apply Sto.tail | apply Patch.put | apply Patch.skip | apply Patch.done) rfl ?_; intro WB HOn; clear HO; have HO := HOn; clear HOn)
      | (with_reducible refine own_at_box 3 ?_; refine sb_1 HO (.int .i64 _) rfl rfl ?_; intro nB WB HOn; (try simp only [List.cons_append, List.nil_append] at HOn); clear HO; have HO := HOn; clear HOn)
      | (with_reducible refine own_at_alloc 3 ?_; refine sa_1 HO ?_; intro nB WB HOn; (try simp only [List.cons_append, List.nil_append] at HOn); clear HO; have HO := HOn; clear HOn)
      | (with_reducible refine own_at_load 3 ?_; refine sl_1 HO rfl _ _ _ _ rfl (by repeat first | apply Has.head | apply Has.tail) rfl ?_)
      | (with_reducible refine own_at_store 3 ?_; refine st_1 HO (.int .i64 _) rfl rfl _ _ rfl (by repeat first | apply Sto.head | apply Sto.tail | apply Patch.put | apply Patch.skip | apply Patch.done) rfl ?_; intro WB HOn; clear HO; have HO := HOn; clear HOn)
      | (with_reducible refine own_at_box 30 ?_; refine sb_2 HO (.slice _ _ _) rfl rfl ?_; intro nB WB HOn; (try simp only [List.cons_append, List.nil_append] at HOn); clear HO; have HO := HOn; clear HOn)
      | (with_reducible refine own_at_alloc 30 ?_; refine sa_2 HO ?_; intro nB WB HOn; (try simp only [List.cons_append, List.nil_append] at HOn); clear HO; have HO := HOn; clear HOn)
      | (with_reducible refine own_at_load 30 ?_; refine sl_2 HO rfl _ _ _ _ rfl (by repeat first | apply Has.head | apply Has.tail) rfl ?_)
      | (with_reducible refine own_at_store 30 ?_; refine st_2 HO (.slice _ _ _) rfl rfl _ _ rfl (by repeat first | apply Sto.head | apply Sto.tail | apply Patch.put | apply Patch.skip | apply Patch.done) rfl ?_; intro WB HOn; clear HO; have HO := HOn; clear HOn)
      | (with_reducible refine own_at_load 29 ?_; refine wpList_own_elem rfl 29 _ rfl HO _ Try.underlying29 rfl oinfo_2 1 _ _ ls rfl inL_len (by decide) k _ HX.out rfl _ rfl ?_)
      | (go_at_call 9; refine (feed_at _ _ _ _ _ _ _ _ _ _ _ _ _ _ _ _ _ _ A k c (ls.take k) b 0 _ _ _ _ _ _ _ HW.out HC.out.1 HC.out.2 HA.out (fun hne => ⟨(HO.rng 0 _ _ _ rfl hne).1, (HO.rng 0 _ _ _ rfl hne).2.1⟩) (by omega)).mono ?_; rintro e wc ⟨g1, cg1, rfl, hc1, hm1, hr1, hb⟩; have HOn := (HO.pushNew hb g1 0 _ (fun _ => hr1)).skip1; clear HO hb; have HO := HOn; clear HOn))
        go_roundw
        case rel => exact ⟨k + 1, cg1, g1, some ⟨g1, 0, none⟩, by go_num, by omega, Lib.hid (by rw [List.length_take, HN.out]; omega), Lib.hid ⟨hc1, hm1⟩, Lib.hid (fun _ => rfl), Lib.hid (by rw [HTK.out]; exact HO.takeL 1)⟩
        case measure => simp [intOf] <;> omega
      · obtain rfl : k = n := by omega
        have hlt2 : ls.take k = ls := by rw [← HN.out]; exact List.take_length
        rw [hlt2] at HO HW
        clear hlt2
        go_wp2_with fail
        go_loopw [10, 44] (fun at' j wx => ∃ (q a c b o : Nat) (A : Option Addr) (f s : Bool), j = .int .i64 q ∧ at' = .int .i64 a ∧ q ≤ k + r ∧ a ≤ k ∧ (q ≤ a ∨ a = k) ∧ ((f = true ∧ s = false) ∨ (f = false ∧ s = true ∧ a = k)) ∧ Hid ((ls.drop a).length = k - a) ∧ Hid (k - a ≤ c ∧ c ≤ maxLen) ∧ Hid (0 < k - a → A = some ⟨b, o, none⟩) ∧ Hid (Own w wx [(n0, [i6 1, uw 0, .bool false, i6 0, .bool false, .bool false, i6 0, uw 0, .bool true, .bool f, .bool s, i6 0, i6 0, i6 0, i6 0, uw 0, i6 0, .bool false, .slice A (k - a) c])] [(b, o, cellsR inL (ls.drop a)), (lb, lo, cellsR inL ls)])) (fun _ j _ => k + r - (intOf j).toNat)
        case atStart => exact ⟨0, 0, c, b, 0, A, true, false, rfl, rfl, by omega, by omega, by omega, Or.inl ⟨rfl, rfl⟩, Lib.hid (by rw [List.length_drop, HN.out]), HC, HA, Lib.hid HO⟩
        case round =>
          clear HO HW HC HA
          obtain ⟨q, a, c, b, o, A, f, s, rfl, rfl, hq, ha, hqa, hfs, HW, HC, HA, HOH⟩ := hrel
          have HO := HOH.out
          clear HOH
          by_cases hqlt : q < k + r
          · have hqi : (q : Int) < (k : Int) + (r : Int) := by omega
            rcases hfs with ⟨rfl, rfl⟩ | ⟨rfl, rfl, hak⟩
            · go_wp2_with (first
      | (with_reducible refine own_at_box 32 ?_; refine ob_0 HO _ rfl ?_; intro nB WB HOn; (try simp only [List.cons_append, List.nil_append] at HOn); clear HO; have HO := HOn; clear HOn)
      | (with_reducible refine own_at_alloc 32 ?_; refine oa_0 HO ?_; intro nB WB HOn; (try simp only [List.cons_append, List.nil_append] at HOn); clear HO; have HO := HOn; clear HOn)
      | (with_reducible refine own_at_load 32 ?_; first | refine ol_0 HO rfl _ _ rfl (by repeat first | apply Has.head | apply Has.tail) rfl ?_ | refine op_0 HO rfl _ _ _ _ rfl (by repeat first | apply Has.head | apply Has.tail) (by repeat first | apply Part.done | apply Part.take | apply Part.skip) ?_)
      | (with_reducible refine own_at_store 32 ?_; refine os_0 HO _ rfl rfl _ _ rfl (by repeat first | apply Sto.head | apply Sto.tail | apply Patch.put | apply Patch.skip | apply Patch.done) rfl ?_; intro WB HOn; clear HO; have HO := HOn; clear HOn)
      | (with_reducible refine own_at_box 27 ?_; refine ob_1 HO _ rfl ?_; intro nB WB HOn; (try simp only [List.cons_append, List.nil_append] at HOn); clear HO; have HO := HOn; clear HOn)
      | (with_reducible refine own_at_alloc 27 ?_; refine oa_1 HO ?_; intro nB WB HOn; (try simp only [List.cons_append, List.nil_append] at HOn); clear HO; have HO := HOn; clear HOn)
      | (with_reducible refine own_at_load 27 ?_; first | refine ol_1 HO rfl _ _ rfl (by repeat first | apply Has.head | apply Has.tail) rfl ?_ | refine op_1 HO rfl _ _ _ _ rfl (by repeat first | apply Has.head | apply Has.tail) (by repeat first | apply Part.done | apply Part.take | apply Part.skip) ?_)
      | (with_reducible refine own_at_store 27 ?_; refine os_1 HO _ rfl rfl _ _ rfl (by repeat first | apply Sto.head | apply Sto.tail | apply Patch.put | apply Patch.skip | apply Patch.done) rfl ?_; intro WB HOn; clear HO; have HO := HOn; clear HOn)
      | (with_reducible refine own_at_box 29 ?_; refine ob_2 HO _ rfl ?_; intro nB WB HOn; (try simp only [List.cons_append, List.nil_append] at HOn); clear HO; have HO := HOn; clear HOn)
      | (with_reducible refine own_at_alloc 29 ?_; refine oa_2 HO ?_; intro nB WB HOn; (try simp only [List.cons_append, List.nil_append] at HOn); clear HO; have HO := HOn; clear HOn)
      | (with_reducible refine own_at_load 29 ?_; first | refine ol_2 HO rfl _ _ rfl (by repeat first | apply Has.head | apply Has.tail) rfl ?_ | refine op_2 HO rfl _ _ _ _ rfl (by repeat first | apply Has.head | apply Has.tail) (by repeat first | apply Part.done | apply Part.take | apply Part.skip) ?_)
      | (with_reducible refine own_at_store 29 ?_; refine os_2 HO _ rfl rfl _ _ rfl (by repeat first | apply Sto.head | apply Sto.tail | apply Patch.put | apply Patch.skip | apply Patch.done) rfl ?_; intro WB HOn; clear HO; have HO := HOn; clear HOn)
      | (with_reducible refine own_at_box 4 ?_; refine sb_0 HO (.bool _) rfl rfl ?_; intro nB WB HOn; (try simp only [List.cons_append, List.nil_append] at HOn); clear HO; have HO := HOn; clear HOn)
      | (with_reducible refine own_at_alloc 4 ?_; refine sa_0 HO ?_; intro nB WB HOn; (try simp only [List.cons_append, List.nil_append] at HOn); clear HO; have HO := HOn; clear HOn)
      | (with_reducible refine own_at_load 4 ?_; refine sl_0 HO rfl _ _ _ _ rfl (by repeat first | apply Has.head | apply Has.tail) rfl ?_)
      | (with_reducible refine own_at_store 4 ?_; refine st_0 HO (.bool _) rfl rfl _ _ rfl (by repeat first | apply Sto.head | apply Sto.tail | apply Patch.put | apply Patch.skip | apply Patch.done) rfl ?_; intro WB HOn; clear HO; have HO := HOn; clear HOn)
      | (with_reducible refine own_at_box 3 ?_; refine sb_1 HO (.int .i64 _) rfl rfl ?_; intro nB WB HOn; (try simp only [List.cons_append, List.nil_append] at HOn); clear HO; have HO := HOn; clear HOn)
      | (with_reducible refine own_at_alloc 3 ?_; refine sa_1 HO ?_; intro nB WB HOn; (try simp only [List.cons_append, List.nil_append] at HOn); clear HO; have HO := HOn; clear HOn)
      | (with_reducible refine own_at_load 3 ?_; refine sl_1 HO rfl _ _ _ _ rfl (by repeat first | apply Has.head | apply Has.tail) rfl ?_)
      | (with_reducible refine own_at_store 3 ?_; refine st_1 HO (.int .i64 _) rfl rfl _ _ rfl (by repeat first | apply Sto.head | apply Sto.tail | apply Patch.put | apply Patch.skip | apply Patch.done) rfl ?_; intro WB HOn; clear HO; have HO := HOn; clear HOn)
      | (with_reducible refine own_at_box 30 ?_; refine sb_2 HO (.slice _ _ _) rfl rfl ?_; intro nB WB HOn; (try simp only [List.cons_append, List.nil_append] at HOn); clear HO; have HO := HOn; clear HOn)
      | (with_reducible refine own_at_alloc 30 ?_; refine sa_2 HO ?_; intro nB WB HOn; (try simp only [List.cons_append, List.nil_append] at HOn); clear HO; have HO := HOn; clear HOn)
      | (with_reducible refine own_at_load 30 ?_; refine sl_2 HO rfl _ _ _ _ rfl (by repeat first | apply Has.head | apply Has.tail) rfl ?_)
      | (with_reducible refine own_at_store 30 ?_; refine st_2 HO (.slice _ _ _) rfl rfl _ _ rfl (by repeat first | apply Sto.head | apply Sto.tail | apply Patch.put | apply Patch.skip | apply Patch.done) rfl ?_; intro WB HOn; clear HO; have HO := HOn; clear HOn)
      | (go_at_call 11; refine (allow_sync _ _ _ _ _ _ _ _ _ _ _ _ _ _ _ _ _ _ _ _ _).mono ?_; rintro e wc ⟨rfl, hb⟩; have HOn := HO.below hb; clear HO hb; have HO := HOn; clear HOn))
              simp only [Act.put, List.setIfInBounds_toArray, List.set_cons_zero, List.set_cons_succ]
              go_loopw [10] (fun at' wy => ∃ (a' c' b' o' : Nat) (A' : Option Addr) (f s : Bool), at' = .int .i64 a' ∧ a ≤ a' ∧ a' ≤ k ∧ ((f = false ∧ s = true) ∨ (f = true ∧ s = false ∧ a < a')) ∧ Hid ((ls.drop a').length = k - a') ∧ Hid (k - a' ≤ c' ∧ c' ≤ maxLen) ∧ Hid (0 < k - a' → A' = some ⟨b', o', none⟩) ∧ Hid (Own w wy [(n0, [i6 1, uw 0, .bool false, i6 0, .bool false, .bool false, i6 0, uw 0, .bool true, .bool f, .bool s, i6 0, i6 0, i6 0, i6 0, uw 0, i6 0, .bool false, .slice A' (k - a') c'])] [(b', o', cellsR inL (ls.drop a')), (lb, lo, cellsR inL ls)])) (fun at' _ => k - (intOf at').toNat)
              case atStart => exact ⟨a, c, b, o, A, false, true, rfl, by omega, by omega, Or.inl ⟨rfl, rfl⟩, HW, HC, HA, Lib.hid HO⟩
              case round =>
                clear HO HW HC HA
                obtain ⟨a', c', b', o', A', f, s, rfl, haa, hak', hfs, HW, HC, HA, HOH⟩ := hrel
                have HO := HOH.out
                clear HOH
                rcases hfs with ⟨rfl, rfl⟩ | ⟨rfl, rfl, hlt'⟩
                · by_cases hlt' : a' < k
                  · have hki' : ¬ (k : Int) ≤ (a' : Int) := by omega
                    have hki2 : (a' : Int) < (k : Int) := by omega
                    obtain ⟨x, hx⟩ : ∃ x, ls[a']? = some x := ⟨_, List.getElem?_eq_getElem (by rw [HN.out]; exact hlt')⟩
                    obtain rfl : LA = some ⟨lb, lo, none⟩ := HLA.out (by omega)
                    obtain rfl : A' = some ⟨b', o', none⟩ := HA.out (by omega)
                    obtain ⟨x0, x1, x2, x3, x4, x5⟩ := x
                    have HX := Lib.hid hx
                    have HX2 : Hid ((ls.drop a')[0]? = some ⟨x0, x1, x2, x3, x4, x5⟩) := Lib.hid (by rw [List.getElem?_drop, Nat.add_zero]; exact hx)
                    clear hx
                    by_cases h1 : 1 ≤ x0
                    · by_cases h2 : x0 ≤ 4
                      · have HP : Hid (pressB x0 = true) := Lib.hid (by unfold pressB; simp [h1, h2])
                        go_upto_region 19 with (first
                    | (with_reducible refine own_at_box 32 ?_; refine ob_0 HO _ rfl ?_; intro nB WB HOn; (try simp only [List.cons_append, List.nil_append] at HOn); clear HO; have HO := HOn; clear HOn)
                    | (with_reducible refine own_at_alloc 32 ?_; refine oa_0 HO ?_; intro nB WB HOn; (try simp only [List.cons_append, List.nil_append] at HOn); clear HO; have HO := HOn; clear HOn)
                    | (with_reducible refine own_at_load 32 ?_; first | refine ol_0 HO rfl _ _ rfl (by repeat first | apply Has.head | apply Has.tail) rfl ?_ | refine op_0 HO rfl _ _ _ _ rfl (by repeat first | apply Has.head | apply Has.tail) (by repeat first | apply Part.done | apply Part.take | apply Part.skip) ?_)
                    | (with_reducible refine own_at_store 32 ?_; refine os_0 HO _ rfl rfl _ _ rfl (by repeat first | apply Sto.head | apply Sto.tail | apply Patch.put | apply Patch.skip | apply Patch.done) rfl ?_; intro WB HOn; clear HO; have HO := HOn; clear HOn)
                    | (with_reducible refine own_at_box 27 ?_; refine ob_1 HO _ rfl ?_; intro nB WB HOn; (try simp only [List.cons_append, List.nil_append] at HOn); clear HO; have HO := HOn; clear HOn)
                    | (with_reducible refine own_at_alloc 27 ?_; refine oa_1 HO ?_; intro nB WB HOn; (try simp only [List.cons_append, List.nil_append] at HOn); clear HO; have HO := HOn; clear HOn)
                    | (with_reducible refine own_at_load 27 ?_; first | refine ol_1 HO rfl _ _ rfl (by repeat first | apply Has.head | apply Has.tail) rfl ?_ | refine op_1 HO rfl _ _ _ _ rfl (by repeat first | apply Has.head | apply Has.tail) (by repeat first | apply Part.done | apply Part.take | apply Part.skip) ?_)
                    | (with_reducible refine own_at_store 27 ?_; refine os_1 HO _ rfl rfl _ _ rfl (by repeat first | apply Sto.head | apply Sto.tail | apply Patch.put | apply Patch.skip | apply Patch.done) rfl ?_; intro WB HOn; clear HO; have HO := HOn; clear HOn)
                    | (with_reducible refine own_at_box 29 ?_; refine ob_2 HO _ rfl ?_; intro nB WB HOn; (try simp only [List.cons_append, List.nil_append] at HOn); clear HO; have HO := HOn; clear HOn)
                    | (with_reducible refine own_at_alloc 29 ?_; refine oa_2 HO ?_; intro nB WB HOn; (try simp only [List.cons_append, List.nil_append] at HOn); clear HO; have HO := HOn; clear HOn)
                    | (with_reducible refine own_at_load 29 ?_; first | refine ol_2 HO rfl _ _ rfl (by repeat first | apply Has.head | apply Has.tail) rfl ?_ | refine op_2 HO rfl _ _ _ _ rfl (by repeat first | apply Has.head | apply Has.tail) (by repeat first | apply Part.done | apply Part.take | apply Part.skip) ?_)
                    | (with_reducible refine own_at_store 29 ?_; refine os_2 HO _ rfl rfl _ _ rfl (by repeat first | apply Sto.head | apply Sto.tail | apply Patch.put | apply Patch.skip | apply Patch.done) rfl ?_; intro WB HOn; clear HO; have HO := HOn; clear HOn)
                    | (with_reducible refine own_at_box 4 ?_; refine sb_0 HO (.bool _) rfl rfl ?_; intro nB WB HOn; (try simp only [List.cons_append, List.nil_append] at HOn); clear HO; have HO := HOn; clear HOn)
                    | (with_reducible refine own_at_alloc 4 ?_; refine sa_0 HO ?_; intro nB WB HOn; (try simp only [List.cons_append, List.nil_append] at HOn); clear HO; have HO := HOn; clear HOn)
                    | (with_reducible refine own_at_load 4 ?_; refine sl_0 HO rfl _ _ _ _ rfl (by repeat first | apply Has.head | apply Has.tail) rfl ?_)
                    | (with_reducible refine own_at_store 4 ?_; refine st_0 HO (.bool _) rfl rfl _ _ rfl (by repeat first | apply Sto.head | apply Sto.tail | apply Patch.put | apply Patch.skip | apply Patch.done) rfl ?_; intro WB HOn; clear HO; have HO := HOn; clear HOn)
                    | (with_reducible refine own_at_box 3 ?_; refine sb_1 HO (.int .i64 _) rfl rfl ?_; intro nB WB HOn; (try simp only [List.cons_append, List.nil_append] at HOn); clear HO; have HO := HOn; clear HOn)
                    | (with_reducible refine own_at_alloc 3 ?_; refine sa_1 HO ?_; intro nB WB HOn; (try simp only [List.cons_append, List.nil_append] at HOn); clear HO; have HO := HOn; clear HOn)
                    | (with_reducible refine own_at_load 3 ?_; refine sl_1 HO rfl _ _ _ _ rfl (by repeat first | apply Has.head | apply Has.tail) rfl ?_)
                    | (with_reducible refine own_at_store 3 ?_; refine st_1 HO (.int .i64 _) rfl rfl _ _ rfl (by repeat first | apply Sto.head | apply Sto.tail | apply Patch.put | apply Patch.skip | apply Patch.done) rfl ?_; intro WB HOn; clear HO; have HO := HOn; clear HOn)
                    | (with_reducible refine own_at_box 30 ?_; refine sb_2 HO (.slice _ _ _) rfl rfl ?_; intro nB WB HOn; (try simp only [List.cons_append, List.nil_append] at HOn); clear HO; have HO := HOn; clear HOn)
                    | (with_reducible refine own_at_alloc 30 ?_; refine sa_2 HO ?_; intro nB WB HOn; (try simp only [List.cons_append, List.nil_append] at HOn); clear HO; have HO := HOn; clear HOn)
                    | (with_reducible refine own_at_load 30 ?_; refine sl_2 HO rfl _ _ _ _ rfl (by repeat first | apply Has.head | apply Has.tail) rfl ?_)
                    | (with_reducible refine own_at_store 30 ?_; refine st_2 HO (.slice _ _ _) rfl rfl _ _ rfl (by repeat first | apply Sto.head | apply Sto.tail | apply Patch.put | apply Patch.skip | apply Patch.done) rfl ?_; intro WB HOn; clear HO; have HO := HOn; clear HOn)
                    | (go_at_call 18; refine (next_at _ _ _ _ _ _ _ _ _ _ _ _ _ _ _ _ _ (k - a') c' (ls.drop a') b' o' _ _ _ _ _ _ _ HW.out HC.out.1 HX2.out (fun hne => ⟨(HO.rng 0 _ _ _ rfl hne).1, (HO.rng 0 _ _ _ rfl hne).2.1⟩) (by omega) true false (tailA c' b' o') (by rw [HP.out]; rfl) (by rw [HP.out]; rfl) rfl).mono ?_; rintro e wc ⟨rfl, hb⟩; have HOn := (HO.below hb).dropHead inL_len (by decide) 1 (o' + 6) (ls.drop (a' + 1)) (by omega) (by rw [List.drop_drop]); clear HO hb; have HO := HOn; clear HOn))
                        have uc0 := (HO.blk 2 _ _ rfl).cell 0 rfl
                        have ye0 := HO.elemCell inL_len (by decide) 1 _ _ ls rfl HX.out 0 rfl
                        have uc1 := (HO.blk 2 _ _ rfl).cell 1 rfl
                        have ye1 := HO.elemCell inL_len (by decide) 1 _ _ ls rfl HX.out 1 rfl
                        have uc2 := (HO.blk 2 _ _ rfl).cell 2 rfl
                        have ye2 := HO.elemCell inL_len (by decide) 1 _ _ ls rfl HX.out 2 rfl
                        have uc3 := (HO.blk 2 _ _ rfl).cell 3 rfl
                        have ye3 := HO.elemCell inL_len (by decide) 1 _ _ ls rfl HX.out 3 rfl
                        have uc4 := (HO.blk 2 _ _ rfl).cell 4 rfl
                        have ye4 := HO.elemCell inL_len (by decide) 1 _ _ ls rfl HX.out 4 rfl
                        have uc5 := (HO.blk 2 _ _ rfl).cell 5 rfl
                        have ye5 := HO.elemCell inL_len (by decide) 1 _ _ ls rfl HX.out 5 rfl
                        dsimp only at ye0 ye1 ye2 ye3 ye4 ye5
                        rw [Nat.add_zero] at ye0
                        go_quiet (fail)
                        all_goals
                          clear uc0 uc1 uc2 uc3 uc4 uc5 ye0 ye1 ye2 ye3 ye4 ye5
                          have HOn := HO.drewN nq
                          clear HO
                          have HO := HOn
                          clear HOn
                          go_wp2_with (first
                                | (with_reducible refine own_at_box 32 ?_; refine ob_0 HO _ rfl ?_; intro nB WB HOn; (try simp only [List.cons_append, List.nil_append] at HOn); clear HO; have HO := HOn; clear HOn)
                                | (with_reducible refine own_at_alloc 32 ?_; refine oa_0 HO ?_; intro nB WB HOn; (try simp only [List.cons_append, List.nil_append] at HOn); clear HO; have HO := HOn; clear HOn)
                                | (with_reducible refine own_at_load 32 ?_; first | refine ol_0 HO rfl _ _ rfl (by repeat first | apply Has.head | apply Has.tail) rfl ?_ | refine op_0 HO rfl _ _ _ _ rfl (by repeat first | apply Has.head | apply Has.tail) (by repeat first | apply Part.done | apply Part.take | apply Part.skip) ?_)
                                | (with_reducible refine own_at_store 32 ?_; refine os_0 HO _ rfl rfl _ _ rfl (by repeat first | apply Sto.head | apply Sto.tail | apply Patch.put | apply Patch.skip | apply Patch.done) rfl ?_; intro WB HOn; clear HO; have HO := HOn; clear HOn)
                                | (with_reducible refine own_at_box 27 ?_; refine ob_1 HO _ rfl ?_; intro nB WB HOn; (try simp only [List.cons_append, List.nil_append] at HOn); clear HO; have HO := HOn; clear HOn)
                                | (with_reducible refine own_at_alloc 27 ?_; refine oa_1 HO ?_; intro nB WB HOn; (try simp only [List.cons_append, List.nil_append] at HOn); clear HO; have HO := HOn; clear HOn)
                                | (with_reducible refine own_at_load 27 ?_; first | refine ol_1 HO rfl _ _ rfl (by repeat first | apply Has.head | apply Has.tail) rfl ?_ | refine op_1 HO rfl _ _ _ _ rfl (by repeat first | apply Has.head | apply Has.tail) (by repeat first | apply Part.done | apply Part.take | apply Part.skip) ?_)
                                | (with_reducible refine own_at_store 27 ?_; refine os_1 HO _ rfl rfl _ _ rfl (by repeat first | apply Sto.head | apply Sto.tail | apply Patch.put | apply Patch.skip | apply Patch.done) rfl ?_; intro WB HOn; clear HO; have HO := HOn; clear HOn)
                                | (with_reducible refine own_at_box 29 ?_; refine ob_2 HO _ rfl ?_; intro nB WB HOn; (try simp only [List.cons_append, List.nil_append] at HOn); clear HO; have HO := HOn; clear HOn)
                                | (with_reducible refine own_at_alloc 29 ?_; refine oa_2 HO ?_; intro nB WB HOn; (try simp only [List.cons_append, List.nil_append] at HOn); clear HO; have HO := HOn; clear HOn)
                                | (with_reducible refine own_at_load 29 ?_; first | refine ol_2 HO rfl _ _ rfl (by repeat first | apply Has.head | apply Has.tail) rfl ?_ | refine op_2 HO rfl _ _ _ _ rfl (by repeat first | apply Has.head | apply Has.tail) (by repeat first | apply Part.done | apply Part.take | apply Part.skip) ?_)
                                | (with_reducible refine own_at_store 29 ?_; refine os_2 HO _ rfl rfl _ _ rfl (by repeat first | apply Sto.head | apply Sto.tail | apply Patch.put | apply Patch.skip | apply Patch.done) rfl ?_; intro WB HOn; clear HO; have HO := HOn; clear HOn)
                                | (with_reducible refine own_at_box 4 ?_; refine sb_0 HO (.bool _) rfl rfl ?_; intro nB WB HOn; (try simp only [List.cons_append, List.nil_append] at HOn); clear HO; have HO := HOn; clear HOn)
                                | (with_reducible refine own_at_alloc 4 ?_; refine sa_0 HO ?_; intro nB WB HOn; (try simp only [List.cons_append, List.nil_append] at HOn); clear HO; have HO := HOn; clear HOn)
                                | (with_reducible refine own_at_load 4 ?_; refine sl_0 HO rfl _ _ _ _ rfl (by repeat first | apply Has.head | apply Has.tail) rfl ?_)
                                | (with_reducible refine own_at_store 4 ?_; refine st_0 HO (.bool _) rfl rfl _ _ rfl (by repeat first | apply Sto.head | apply Sto.tail | apply Patch.put | apply Patch.skip | apply Patch.done) rfl ?_; intro WB HOn; clear HO; have HO := HOn; clear HOn)
                                | (with_reducible refine own_at_box 3 ?_; refine sb_1 HO (.int .i64 _) rfl rfl ?_; intro nB WB HOn; (try simp only [List.cons_append, List.nil_append] at HOn); clear HO; have HO := HOn; clear HOn)
                                | (with_reducible refine own_at_alloc 3 ?_; refine sa_1 HO ?_; intro nB WB HOn; (try simp only [List.cons_append, List.nil_append] at HOn); clear HO; have HO := HOn; clear HOn)
                                | (with_reducible refine own_at_load 3 ?_; refine sl_1 HO rfl _ _ _ _ rfl (by repeat first | apply Has.head | apply Has.tail) rfl ?_)
                                | (with_reducible refine own_at_store 3 ?_; refine st_1 HO (.int .i64 _) rfl rfl _ _ rfl (by repeat first | apply Sto.head | apply Sto.tail | apply Patch.put | apply Patch.skip | apply Patch.done) rfl ?_; intro WB HOn; clear HO; have HO := HOn; clear HOn)
                                | (with_reducible refine own_at_box 30 ?_; refine sb_2 HO (.slice _ _ _) rfl rfl ?_; intro nB WB HOn; (try simp only [List.cons_append, List.nil_append] at HOn); clear HO; have HO := HOn; clear HOn)
                                | (with_reducible refine own_at_alloc 30 ?_; refine sa_2 HO ?_; intro nB WB HOn; (try simp only [List.cons_append, List.nil_append] at HOn); clear HO; have HO := HOn; clear HOn)
                                | (with_reducible refine own_at_load 30 ?_; refine sl_2 HO rfl _ _ _ _ rfl (by repeat first | apply Has.head | apply Has.tail) rfl ?_)
                                | (with_reducible refine own_at_store 30 ?_; refine st_2 HO (.slice _ _ _) rfl rfl _ _ rfl (by repeat first | apply Sto.head | apply Sto.tail | apply Patch.put | apply Patch.skip | apply Patch.done) rfl ?_; intro WB HOn; clear HO; have HO := HOn; clear HOn)
                                | (go_at_call 14; refine (frozen_f _ _ _ _ _ _ _ _ _ _ _ _ _ _ _ _ _ _ _ _ _ _).mono ?_; rintro e wc ⟨rfl, hb⟩; have HOn := HO.below hb; clear HO hb; have HO := HOn; clear HOn))
                          go_roundw
                          case rel =>
                            have e1 : k - a' - 1 = k - (a' + 1) := by omega
                            rw [e1] at HO
                            exact ⟨a' + 1, c' - 1, b', o' + 6, tailA c' b' o', true, false, by go_num, by omega, by omega, Or.inr ⟨rfl, rfl, by omega⟩, Lib.hid (by rw [List.length_drop, HN.out]), Lib.hid (by have := HC.out; omega), Lib.hid (fun h => by have := HC.out; unfold tailA; rw [if_neg (by omega)]), Lib.hid (HO.takeL 1)⟩
                          case measure => simp [intOf] <;> omega
                      · have HP : Hid (pressB x0 = false) := Lib.hid (by unfold pressB; simp [h2])
                        go_upto_region 19 with (first
                    | (with_reducible refine own_at_box 32 ?_; refine ob_0 HO _ rfl ?_; intro nB WB HOn; (try simp only [List.cons_append, List.nil_append] at HOn); clear HO; have HO := HOn; clear HOn)
                    | (with_reducible refine own_at_alloc 32 ?_; refine oa_0 HO ?_; intro nB WB HOn; (try simp only [List.cons_append, List.nil_append] at HOn); clear HO; have HO := HOn; clear HOn)
                    | (with_reducible refine own_at_load 32 ?_; first | refine ol_0 HO rfl _ _ rfl (by repeat first | apply Has.head | apply Has.tail) rfl ?_ | refine op_0 HO rfl _ _ _ _ rfl (by repeat first | apply Has.head | apply Has.tail) (by repeat first | apply Part.done | apply Part.take | apply Part.skip) ?_)
                    | (with_reducible refine own_at_store 32 ?_; refine os_0 HO _ rfl rfl _ _ rfl (by repeat first | apply Sto.head | apply Sto.tail | apply Patch.put | apply Patch.skip | apply Patch.done) rfl ?_; intro WB HOn; clear HO; have HO := HOn; clear HOn)
                    | (with_reducible refine own_at_box 27 ?_; refine ob_1 HO _ rfl ?_; intro nB WB HOn; (try simp only [List.cons_append, List.nil_append] at HOn); clear HO; have HO := HOn; clear HOn)
                    | (with_reducible refine own_at_alloc 27 ?_; refine oa_1 HO ?_; intro nB WB HOn; (try simp only [List.cons_append, List.nil_append] at HOn); clear HO; have HO := HOn; clear HOn)
                    | (with_reducible refine own_at_load 27 ?_; first | refine ol_1 HO rfl _ _ rfl (by repeat first | apply Has.head | apply Has.tail) rfl ?_ | refine op_1 HO rfl _ _ _ _ rfl (by repeat first | apply Has.head | apply Has.tail) (by repeat first | apply Part.done | apply Part.take | apply Part.skip) ?_)
                    | (with_reducible refine own_at_store 27 ?_; refine os_1 HO _ rfl rfl _ _ rfl (by repeat first | apply Sto.head | apply Sto.tail | apply Patch.put | apply Patch.skip | apply Patch.done) rfl ?_; intro WB HOn; clear HO; have HO := HOn; clear HOn)
                    | (with_reducible refine own_at_box 29 ?_; refine ob_2 HO _ rfl ?_; intro nB WB HOn; (try simp only [List.cons_append, List.nil_append] at HOn); clear HO; have HO := HOn; clear HOn)
                    | (with_reducible refine own_at_alloc 29 ?_; refine oa_2 HO ?_; intro nB WB HOn; (try simp only [List.cons_append, List.nil_append] at HOn); clear HO; have HO := HOn; clear HOn)
                    | (with_reducible refine own_at_load 29 ?_; first | refine ol_2 HO rfl _ _ rfl (by repeat first | apply Has.head | apply Has.tail) rfl ?_ | refine op_2 HO rfl _ _ _ _ rfl (by repeat first | apply Has.head | apply Has.tail) (by repeat first | apply Part.done | apply Part.take | apply Part.skip) ?_)
                    | (with_reducible refine own_at_store 29 ?_; refine os_2 HO _ rfl rfl _ _ rfl (by repeat first | apply Sto.head | apply Sto.tail | apply Patch.put | apply Patch.skip | apply Patch.done) rfl ?_; intro WB HOn; clear HO; have HO := HOn; clear HOn)
                    | (with_reducible refine own_at_box 4 ?_; refine sb_0 HO (.bool _) rfl rfl ?_; intro nB WB HOn; (try simp only [List.cons_append, List.nil_append] at HOn); clear HO; have HO := HOn; clear HOn)
                    | (with_reducible refine own_at_alloc 4 ?_; refine sa_0 HO ?_; intro nB WB HOn; (try simp only [List.cons_append, List.nil_append] at HOn); clear HO; have HO := HOn; clear HOn)
                    | (with_reducible refine own_at_load 4 ?_; refine sl_0 HO rfl _ _ _ _ rfl (by repeat first | apply Has.head | apply Has.tail) rfl ?_)
                    | (with_reducible refine own_at_store 4 ?_; refine st_0 HO (.bool _) rfl rfl _ _ rfl (by repeat first | apply Sto.head | apply Sto.tail | apply Patch.put | apply Patch.skip | apply Patch.done) rfl ?_; intro WB HOn; clear HO; have HO := HOn; clear HOn)
                    | (with_reducible refine own_at_box 3 ?_; refine sb_1 HO (.int .i64 _) rfl rfl ?_; intro nB WB HOn; (try simp only [List.cons_append, List.nil_append] at HOn); clear HO; have HO := HOn; clear HOn)
                    | (with_reducible refine own_at_alloc 3 ?_; refine sa_1 HO ?_; intro nB WB HOn; (try simp only [List.cons_append, List.nil_append] at HOn); clear HO; have HO := HOn; clear HOn)
                    | (with_reducible refine own_at_load 3 ?_; refine sl_1 HO rfl _ _ _ _ rfl (by repeat first | apply Has.head | apply Has.tail) rfl ?_)
                    | (with_reducible refine own_at_store 3 ?_; refine st_1 HO (.int .i64 _) rfl rfl _ _ rfl (by repeat first | apply Sto.head | apply Sto.tail | apply Patch.put | apply Patch.skip | apply Patch.done) rfl ?_; intro WB HOn; clear HO; have HO := HOn; clear HOn)
                    | (with_reducible refine own_at_box 30 ?_; refine sb_2 HO (.slice _ _ _) rfl rfl ?_; intro nB WB HOn; (try simp only [List.cons_append, List.nil_append] at HOn); clear HO; have HO := HOn; clear HOn)
                    | (with_reducible refine own_at_alloc 30 ?_; refine sa_2 HO ?_; intro nB WB HOn; (try simp only [List.cons_append, List.nil_append] at HOn); clear HO; have HO := HOn; clear HOn)
                    | (with_reducible refine own_at_load 30 ?_; refine sl_2 HO rfl _ _ _ _ rfl (by repeat first | apply Has.head | apply Has.tail) rfl ?_)
                    | (with_reducible refine own_at_store 30 ?_; refine st_2 HO (.slice _ _ _) rfl rfl _ _ rfl (by repeat first | apply Sto.head | apply Sto.tail | apply Patch.put | apply Patch.skip | apply Patch.done) rfl ?_; intro WB HOn; clear HO; have HO := HOn; clear HOn)
                    | (go_at_call 18; refine (next_at _ _ _ _ _ _ _ _ _ _ _ _ _ _ _ _ _ (k - a') c' (ls.drop a') b' o' _ _ _ _ _ _ _ HW.out HC.out.1 HX2.out (fun hne => ⟨(HO.rng 0 _ _ _ rfl hne).1, (HO.rng 0 _ _ _ rfl hne).2.1⟩) (by omega) false true (tailA c' b' o') (by rw [HP.out]; rfl) (by rw [HP.out]; rfl) rfl).mono ?_; rintro e wc ⟨rfl, hb⟩; have HOn := (HO.below hb).dropHead inL_len (by decide) 1 (o' + 6) (ls.drop (a' + 1)) (by omega) (by rw [List.drop_drop]); clear HO hb; have HO := HOn; clear HOn))
                        have uc0 := (HO.blk 2 _ _ rfl).cell 0 rfl
                        have ye0 := HO.elemCell inL_len (by decide) 1 _ _ ls rfl HX.out 0 rfl
                        have uc1 := (HO.blk 2 _ _ rfl).cell 1 rfl
                        have ye1 := HO.elemCell inL_len (by decide) 1 _ _ ls rfl HX.out 1 rfl
                        have uc2 := (HO.blk 2 _ _ rfl).cell 2 rfl
                        have ye2 := HO.elemCell inL_len (by decide) 1 _ _ ls rfl HX.out 2 rfl
                        have uc3 := (HO.blk 2 _ _ rfl).cell 3 rfl
                        have ye3 := HO.elemCell inL_len (by decide) 1 _ _ ls rfl HX.out 3 rfl
                        have uc4 := (HO.blk 2 _ _ rfl).cell 4 rfl
                        have ye4 := HO.elemCell inL_len (by decide) 1 _ _ ls rfl HX.out 4 rfl
                        have uc5 := (HO.blk 2 _ _ rfl).cell 5 rfl
                        have ye5 := HO.elemCell inL_len (by decide) 1 _ _ ls rfl HX.out 5 rfl
                        dsimp only at ye0 ye1 ye2 ye3 ye4 ye5
                        rw [Nat.add_zero] at ye0
                        go_quiet (fail)
                        all_goals
                          clear uc0 uc1 uc2 uc3 uc4 uc5 ye0 ye1 ye2 ye3 ye4 ye5
                          have HOn := HO.drewN nq
                          clear HO
                          have HO := HOn
                          clear HOn
                          go_wp2_with (first
                                | (with_reducible refine own_at_box 32 ?_; refine ob_0 HO _ rfl ?_; intro nB WB HOn; (try simp only [List.cons_append, List.nil_append] at HOn); clear HO; have HO := HOn; clear HOn)
                                | (with_reducible refine own_at_alloc 32 ?_; refine oa_0 HO ?_; intro nB WB HOn; (try simp only [List.cons_append, List.nil_append] at HOn); clear HO; have HO := HOn; clear HOn)
                                | (with_reducible refine own_at_load 32 ?_; first | refine ol_0 HO rfl _ _ rfl (by repeat first | apply Has.head | apply Has.tail) rfl ?_ | refine op_0 HO rfl _ _ _ _ rfl (by repeat first | apply Has.head | apply Has.tail) (by repeat first | apply Part.done | apply Part.take | apply Part.skip) ?_)
                                | (with_reducible refine own_at_store 32 ?_; refine os_0 HO _ rfl rfl _ _ rfl (by repeat first | apply Sto.head | apply Sto.tail | apply Patch.put | apply Patch.skip | apply Patch.done) rfl ?_; intro WB HOn; clear HO; have HO := HOn; clear HOn)
                                | (with_reducible refine own_at_box 27 ?_; refine ob_1 HO _ rfl ?_; intro nB WB HOn; (try simp only [List.cons_append, List.nil_append] at HOn); clear HO; have HO := HOn; clear HOn)
                                | (with_reducible refine own_at_alloc 27 ?_; refine oa_1 HO ?_; intro nB WB HOn; (try simp only [List.cons_append, List.nil_append] at HOn); clear HO; have HO := HOn; clear HOn)
                                | (with_reducible refine own_at_load 27 ?_; first | refine ol_1 HO rfl _ _ rfl (by repeat first | apply Has.head | apply Has.tail) rfl ?_ | refine op_1 HO rfl _ _ _ _ rfl (by repeat first | apply Has.head | apply Has.tail) (by repeat first | apply Part.done | apply Part.take | apply Part.skip) ?_)
                                | (with_reducible refine own_at_store 27 ?_; refine os_1 HO _ rfl rfl _ _ rfl (by repeat first | apply Sto.head | apply Sto.tail | apply Patch.put | apply Patch.skip | apply Patch.done) rfl ?_; intro WB HOn; clear HO; have HO := HOn; clear HOn)
                                | (with_reducible refine own_at_box 29 ?_; refine ob_2 HO _ rfl ?_; intro nB WB HOn; (try simp only [List.cons_append, List.nil_append] at HOn); clear HO; have HO := HOn; clear HOn)
                                | (with_reducible refine own_at_alloc 29 ?_; refine oa_2 HO ?_; intro nB WB HOn; (try simp only [List.cons_append, List.nil_append] at HOn); clear HO; have HO := HOn; clear HOn)
                                | (with_reducible refine own_at_load 29 ?_; first | refine ol_2 HO rfl _ _ rfl (by repeat first | apply Has.head | apply Has.tail) rfl ?_ | refine op_2 HO rfl _ _ _ _ rfl (by repeat first | apply Has.head | apply Has.tail) (by repeat first | apply Part.done | apply Part.take | apply Part.skip) ?_)
                                | (with_reducible refine own_at_store 29 ?_; refine os_2 HO _ rfl rfl _ _ rfl (by repeat first | apply Sto.head | apply Sto.tail | apply Patch.put | apply Patch.skip | apply Patch.done) rfl ?_; intro WB HOn; clear HO; have HO := HOn; clear HOn)
                                | (with_reducible refine own_at_box 4 ?_; refine sb_0 HO (.bool _) rfl rfl ?_; intro nB WB HOn; (try simp only [List.cons_append, List.nil_append] at HOn); clear HO; have HO := HOn; clear HOn)
                                | (with_reducible refine own_at_alloc 4 ?_; refine sa_0 HO ?_; intro nB WB HOn; (try simp only [List.cons_append, List.nil_append] at HOn); clear HO; have HO := HOn; clear HOn)
                                | (with_reducible refine own_at_load 4 ?_; refine sl_0 HO rfl _ _ _ _ rfl (by repeat first | apply Has.head | apply Has.tail) rfl ?_)
                                | (with_reducible refine own_at_store 4 ?_; refine st_0 HO (.bool _) rfl rfl _ _ rfl (by repeat first | apply Sto.head | apply Sto.tail | apply Patch.put | apply Patch.skip | apply Patch.done) rfl ?_; intro WB HOn; clear HO; have HO := HOn; clear HOn)
                                | (with_reducible refine own_at_box 3 ?_; refine sb_1 HO (.int .i64 _) rfl rfl ?_; intro nB WB HOn; (try simp only [List.cons_append, List.nil_append] at HOn); clear HO; have HO := HOn; clear HOn)
                                | (with_reducible refine own_at_alloc 3 ?_; refine sa_1 HO ?_; intro nB WB HOn; (try simp only [List.cons_append, List.nil_append] at HOn); clear HO; have HO := HOn; clear HOn)
                                | (with_reducible refine own_at_load 3 ?_; refine sl_1 HO rfl _ _ _ _ rfl (by repeat first | apply Has.head | apply Has.tail) rfl ?_)
                                | (with_reducible refine own_at_store 3 ?_; refine st_1 HO (.int .i64 _) rfl rfl _ _ rfl (by repeat first | apply Sto.head | apply Sto.tail | apply Patch.put | apply Patch.skip | apply Patch.done) rfl ?_; intro WB HOn; clear HO; have HO := HOn; clear HOn)
                                | (with_reducible refine own_at_box 30 ?_; refine sb_2 HO (.slice _ _ _) rfl rfl ?_; intro nB WB HOn; (try simp only [List.cons_append, List.nil_append] at HOn); clear HO; have HO := HOn; clear HOn)
                                | (with_reducible refine own_at_alloc 30 ?_; refine sa_2 HO ?_; intro nB WB HOn; (try simp only [List.cons_append, List.nil_append] at HOn); clear HO; have HO := HOn; clear HOn)
                                | (with_reducible refine own_at_load 30 ?_; refine sl_2 HO rfl _ _ _ _ rfl (by repeat first | apply Has.head | apply Has.tail) rfl ?_)
                                | (with_reducible refine own_at_store 30 ?_; refine st_2 HO (.slice _ _ _) rfl rfl _ _ rfl (by repeat first | apply Sto.head | apply Sto.tail | apply Patch.put | apply Patch.skip | apply Patch.done) rfl ?_; intro WB HOn; clear HO; have HO := HOn; clear HOn)
                                | (go_at_call 14; refine (frozen_f _ _ _ _ _ _ _ _ _ _ _ _ _ _ _ _ _ _ _ _ _ _).mono ?_; rintro e wc ⟨rfl, hb⟩; have HOn := HO.below hb; clear HO hb; have HO := HOn; clear HOn))
                          go_roundw
                          case rel =>
                            have e1 : k - a' - 1 = k - (a' + 1) := by omega
                            rw [e1] at HO
                            exact ⟨a' + 1, c' - 1, b', o' + 6, tailA c' b' o', false, true, by go_num, by omega, by omega, Or.inl ⟨rfl, rfl⟩, Lib.hid (by rw [List.length_drop, HN.out]), Lib.hid (by have := HC.out; omega), Lib.hid (fun h => by have := HC.out; unfold tailA; rw [if_neg (by omega)]), Lib.hid (HO.takeL 1)⟩
                          case measure => simp [intOf] <;> omega
                    · have HP : Hid (pressB x0 = false) := Lib.hid (by unfold pressB; simp [h1])
                      go_upto_region 19 with (first
                    | (with_reducible refine own_at_box 32 ?_; refine ob_0 HO _ rfl ?_; intro nB WB HOn; (try simp only [List.cons_append, List.nil_append] at HOn); clear HO; have HO := HOn; clear HOn)
                    | (with_reducible refine own_at_alloc 32 ?_; refine oa_0 HO ?_; intro nB WB HOn; (try simp only [List.cons_append, List.nil_append] at HOn); clear HO; have HO := HOn; clear HOn)
                    | (with_reducible refine own_at_load 32 ?_; first | refine ol_0 HO rfl _ _ rfl (by repeat first | apply Has.head | apply Has.tail) rfl ?_ | refine op_0 HO rfl _ _ _ _ rfl (by repeat first | apply Has.head | apply Has.tail) (by repeat first | apply Part.done | apply Part.take | apply Part.skip) ?_)
                    | (with_reducible refine own_at_store 32 ?_; refine os_0 HO _ rfl rfl _ _ rfl (by repeat first | apply Sto.head | apply Sto.tail | apply Patch.put | apply Patch.skip | apply Patch.done) rfl ?_; intro WB HOn; clear HO; have HO := HOn; clear HOn)
                    | (with_reducible refine own_at_box 27 ?_; refine ob_1 HO _ rfl ?_; intro nB WB HOn; (try simp only [List.cons_append, List.nil_append] at HOn); clear HO; have HO := HOn; clear HOn)
                    | (with_reducible refine own_at_alloc 27 ?_; refine oa_1 HO ?_; intro nB WB HOn; (try simp only [List.cons_append, List.nil_append] at HOn); clear HO; have HO := HOn; clear HOn)
                    | (with_reducible refine own_at_load 27 ?_; first | refine ol_1 HO rfl _ _ rfl (by repeat first | apply Has.head | apply Has.tail) rfl ?_ | refine op_1 HO rfl _ _ _ _ rfl (by repeat first | apply Has.head | apply Has.tail) (by repeat first | apply Part.done | apply Part.take | apply Part.skip) ?_)
                    | (with_reducible refine own_at_store 27 ?_; refine os_1 HO _ rfl rfl _ _ rfl (by repeat first | apply Sto.head | apply Sto.tail | apply Patch.put | apply Patch.skip | apply Patch.done) rfl ?_; intro WB HOn; clear HO; have HO := HOn; clear HOn)
                    | (with_reducible refine own_at_box 29 ?_; refine ob_2 HO _ rfl ?_; intro nB WB HOn; (try simp only [List.cons_append, List.nil_append] at HOn); clear HO; have HO := HOn; clear HOn)
                    | (with_reducible refine own_at_alloc 29 ?_; refine oa_2 HO ?_; intro nB WB HOn; (try simp only [List.cons_append, List.nil_append] at HOn); clear HO; have HO := HOn; clear HOn)
                    | (with_reducible refine own_at_load 29 ?_; first | refine ol_2 HO rfl _ _ rfl (by repeat first | apply Has.head | apply Has.tail) rfl ?_ | refine op_2 HO rfl _ _ _ _ rfl (by repeat first | apply Has.head | apply Has.tail) (by repeat first | apply Part.done | apply Part.take | apply Part.skip) ?_)
                    | (with_reducible refine own_at_store 29 ?_; refine os_2 HO _ rfl rfl _ _ rfl (by repeat first | apply Sto.head | apply Sto.tail | apply Patch.put | apply Patch.skip | apply Patch.done) rfl ?_; intro WB HOn; clear HO; have HO := HOn; clear HOn)
                    | (with_reducible refine own_at_box 4 ?_; refine sb_0 HO (.bool _) rfl rfl ?_; intro nB WB HOn; (try simp only [List.cons_append, List.nil_append] at HOn); clear HO; have HO := HOn; clear HOn)
                    | (with_reducible refine own_at_alloc 4 ?_; refine sa_0 HO ?_; intro nB WB HOn; (try simp only [List.cons_append, List.nil_append] at HOn); clear HO; have HO := HOn; clear HOn)
                    | (with_reducible refine own_at_load 4 ?_; refine sl_0 HO rfl _ _ _ _ rfl (by repeat first | apply Has.head | apply Has.tail) rfl ?_)
                    | (with_reducible refine own_at_store 4 ?_; refine st_0 HO (.bool _) rfl rfl _ _ rfl (by repeat first | apply Sto.head | apply Sto.tail | apply Patch.put | apply Patch.skip | apply Patch.done) rfl ?_; intro WB HOn; clear HO; have HO := HOn; clear HOn)
                    | (with_reducible refine own_at_box 3 ?_; refine sb_1 HO (.int .i64 _) rfl rfl ?_; intro nB WB HOn; (try simp only [List.cons_append, List.nil_append] at HOn); clear HO; have HO := HOn; clear HOn)
                    | (with_reducible refine own_at_alloc 3 ?_; refine sa_1 HO ?_; intro nB WB HOn; (try simp only [List.cons_append, List.nil_append] at HOn); clear HO; have HO := HOn; clear HOn)
                    | (with_reducible refine own_at_load 3 ?_; refine sl_1 HO rfl _ _ _ _ rfl (by repeat first | apply Has.head | apply Has.tail) rfl ?_)
                    | (with_reducible refine own_at_store 3 ?_; refine st_1 HO (.int .i64 _) rfl rfl _ _ rfl (by repeat first | apply Sto.head | apply Sto.tail | apply Patch.put | apply Patch.skip | apply Patch.done) rfl ?_; intro WB HOn; clear HO; have HO := HOn; clear HOn)
                    | (with_reducible refine own_at_box 30 ?_; refine sb_2 HO (.slice _ _ _) rfl rfl ?_; intro nB WB HOn; (try simp only [List.cons_append, List.nil_append] at HOn); clear HO; have HO := HOn; clear HOn)
                    | (with_reducible refine own_at_alloc 30 ?_; refine sa_2 HO ?_; intro nB WB HOn; (try simp only [List.cons_append, List.nil_append] at HOn); clear HO; have HO := HOn; clear HOn)
                    | (with_reducible refine own_at_load 30 ?_; refine sl_2 HO rfl _ _ _ _ rfl (by repeat first | apply Has.head | apply Has.tail) rfl ?_)
                    | (with_reducible refine own_at_store 30 ?_; refine st_2 HO (.slice _ _ _) rfl rfl _ _ rfl (by repeat first | apply Sto.head | apply Sto.tail | apply Patch.put | apply Patch.skip | apply Patch.done) rfl ?_; intro WB HOn; clear HO; have HO := HOn; clear HOn)
                    | (go_at_call 18; refine (next_at _ _ _ _ _ _ _ _ _ _ _ _ _ _ _ _ _ (k - a') c' (ls.drop a') b' o' _ _ _ _ _ _ _ HW.out HC.out.1 HX2.out (fun hne => ⟨(HO.rng 0 _ _ _ rfl hne).1, (HO.rng 0 _ _ _ rfl hne).2.1⟩) (by omega) false true (tailA c' b' o') (by rw [HP.out]; rfl) (by rw [HP.out]; rfl) rfl).mono ?_; rintro e wc ⟨rfl, hb⟩; have HOn := (HO.below hb).dropHead inL_len (by decide) 1 (o' + 6) (ls.drop (a' + 1)) (by omega) (by rw [List.drop_drop]); clear HO hb; have HO := HOn; clear HOn))
                      have uc0 := (HO.blk 2 _ _ rfl).cell 0 rfl
                      have ye0 := HO.elemCell inL_len (by decide) 1 _ _ ls rfl HX.out 0 rfl
                      have uc1 := (HO.blk 2 _ _ rfl).cell 1 rfl
                      have ye1 := HO.elemCell inL_len (by decide) 1 _ _ ls rfl HX.out 1 rfl
                      have uc2 := (HO.blk 2 _ _ rfl).cell 2 rfl
                      have ye2 := HO.elemCell inL_len (by decide) 1 _ _ ls rfl HX.out 2 rfl
                      have uc3 := (HO.blk 2 _ _ rfl).cell 3 rfl
                      have ye3 := HO.elemCell inL_len (by decide) 1 _ _ ls rfl HX.out 3 rfl
                      have uc4 := (HO.blk 2 _ _ rfl).cell 4 rfl
                      have ye4 := HO.elemCell inL_len (by decide) 1 _ _ ls rfl HX.out 4 rfl
                      have uc5 := (HO.blk 2 _ _ rfl).cell 5 rfl
                      have ye5 := HO.elemCell inL_len (by decide) 1 _ _ ls rfl HX.out 5 rfl
                      dsimp only at ye0 ye1 ye2 ye3 ye4 ye5
                      rw [Nat.add_zero] at ye0
                      go_quiet (fail)
                      all_goals
                        clear uc0 uc1 uc2 uc3 uc4 uc5 ye0 ye1 ye2 ye3 ye4 ye5
                        have HOn := HO.drewN nq
                        clear HO
                        have HO := HOn
                        clear HOn
                        go_wp2_with (first
                              | (with_reducible refine own_at_box 32 ?_; refine ob_0 HO _ rfl ?_; intro nB WB HOn; (try simp only [List.cons_append, List.nil_append] at HOn); clear HO; have HO := HOn; clear HOn)
                              | (with_reducible refine own_at_alloc 32 ?_; refine oa_0 HO ?_; intro nB WB HOn; (try simp only [List.cons_append, List.nil_append] at HOn); clear HO; have HO := HOn; clear HOn)
                              | (with_reducible refine own_at_load 32 ?_; first | refine ol_0 HO rfl _ _ rfl (by repeat first | apply Has.head | apply Has.tail) rfl ?_ | refine op_0 HO rfl _ _ _ _ rfl (by repeat first | apply Has.head | apply Has.tail) (by repeat first | apply Part.done | apply Part.take | apply Part.skip) ?_)
                              | (with_reducible refine own_at_store 32 ?_; refine os_0 HO _ rfl rfl _ _ rfl (by repeat first | apply Sto.head | apply Sto.tail | apply Patch.put | apply Patch.skip | apply Patch.done) rfl ?_; intro WB HOn; clear HO; have HO := HOn; clear HOn)
                              | (with_reducible refine own_at_box 27 ?_; refine ob_1 HO _ rfl ?_; intro nB WB HOn; (try simp only [List.cons_append, List.nil_append] at HOn); clear HO; have HO := HOn; clear HOn)
                              | (with_reducible refine own_at_alloc 27 ?_; refine oa_1 HO ?_; intro nB WB HOn; (try simp only [List.cons_append, List.nil_append] at HOn); clear HO; have HO := HOn; clear HOn)
                              | (with_reducible refine own_at_load 27 ?_; first | refine ol_1 HO rfl _ _ rfl (by repeat first | apply Has.head | apply Has.tail) rfl ?_ | refine op_1 HO rfl _ _ _ _ rfl (by repeat first | apply Has.head | apply Has.tail) (by repeat first | apply Part.done | apply Part.take | apply Part.skip) ?_)
                              | (with_reducible refine own_at_store 27 ?_; refine os_1 HO _ rfl rfl _ _ rfl (by repeat first | apply Sto.head | apply Sto.tail | apply Patch.put | apply Patch.skip | apply Patch.done) rfl ?_; intro WB HOn; clear HO; have HO := HOn; clear HOn)
                              | (with_reducible refine own_at_box 29 ?_; refine ob_2 HO _ rfl ?_; intro nB WB HOn; (try simp only [List.cons_append, List.nil_append] at HOn); clear HO; have HO := HOn; clear HOn)
                              | (with_reducible refine own_at_alloc 29 ?_; refine oa_2 HO ?_; intro nB WB HOn; (try simp only [List.cons_append, List.nil_append] at HOn); clear HO; have HO := HOn; clear HOn)
                              | (with_reducible refine own_at_load 29 ?_; first | refine ol_2 HO rfl _ _ rfl (by repeat first | apply Has.head | apply Has.tail) rfl ?_ | refine op_2 HO rfl _ _ _ _ rfl (by repeat first | apply Has.head | apply Has.tail) (by repeat first | apply Part.done | apply Part.take | apply Part.skip) ?_)
                              | (with_reducible refine own_at_store 29 ?_; refine os_2 HO _ rfl rfl _ _ rfl (by repeat first | apply Sto.head | apply Sto.tail | apply Patch.put | apply Patch.skip | apply Patch.done) rfl ?_; intro WB HOn; clear HO; have HO := HOn; clear HOn)
                              | (with_reducible refine own_at_box 4 ?_; refine sb_0 HO (.bool _) rfl rfl ?_; intro nB WB HOn; (try simp only [List.cons_append, List.nil_append] at HOn); clear HO; have HO := HOn; clear HOn)
                              | (with_reducible refine own_at_alloc 4 ?_; refine sa_0 HO ?_; intro nB WB HOn; (try simp only [List.cons_append, List.nil_append] at HOn); clear HO; have HO := HOn; clear HOn)
                              | (with_reducible refine own_at_load 4 ?_; refine sl_0 HO rfl _ _ _ _ rfl (by repeat first | apply Has.head | apply Has.tail) rfl ?_)
                              | (with_reducible refine own_at_store 4 ?_; refine st_0 HO (.bool _) rfl rfl _ _ rfl (by repeat first | apply Sto.head | apply Sto.tail | apply Patch.put | apply Patch.skip | apply Patch.done) rfl ?_; intro WB HOn; clear HO; have HO := HOn; clear HOn)
                              | (with_reducible refine own_at_box 3 ?_; refine sb_1 HO (.int .i64 _) rfl rfl ?_; intro nB WB HOn; (try simp only [List.cons_append, List.nil_append] at HOn); clear HO; have HO := HOn; clear HOn)
                              | (with_reducible refine own_at_alloc 3 ?_; refine sa_1 HO ?_; intro nB WB HOn; (try simp only [List.cons_append, List.nil_append] at HOn); clear HO; have HO := HOn; clear HOn)
                              | (with_reducible refine own_at_load 3 ?_; refine sl_1 HO rfl _ _ _ _ rfl (by repeat first | apply Has.head | apply Has.tail) rfl ?_)
                              | (with_reducible refine own_at_store 3 ?_; refine st_1 HO (.int .i64 _) rfl rfl _ _ rfl (by repeat first | apply Sto.head | apply Sto.tail | apply Patch.put | apply Patch.skip | apply Patch.done) rfl ?_; intro WB HOn; clear HO; have HO := HOn; clear HOn)
                              | (with_reducible refine own_at_box 30 ?_; refine sb_2 HO (.slice _ _ _) rfl rfl ?_; intro nB WB HOn; (try simp only [List.cons_append, List.nil_append] at HOn); clear HO; have HO := HOn; clear HOn)
                              | (with_reducible refine own_at_alloc 30 ?_; refine sa_2 HO ?_; intro nB WB HOn; (try simp only [List.cons_append, List.nil_append] at HOn); clear HO; have HO := HOn; clear HOn)
                              | (with_reducible refine own_at_load 30 ?_; refine sl_2 HO rfl _ _ _ _ rfl (by repeat first | apply Has.head | apply Has.tail) rfl ?_)
                              | (with_reducible refine own_at_store 30 ?_; refine st_2 HO (.slice _ _ _) rfl rfl _ _ rfl (by repeat first | apply Sto.head | apply Sto.tail | apply Patch.put | apply Patch.skip | apply Patch.done) rfl ?_; intro WB HOn; clear HO; have HO := HOn; clear HOn)
                              | (go_at_call 14; refine (frozen_f _ _ _ _ _ _ _ _ _ _ _ _ _ _ _ _ _ _ _ _ _ _).mono ?_; rintro e wc ⟨rfl, hb⟩; have HOn := HO.below hb; clear HO hb; have HO := HOn; clear HOn))
                        go_roundw
                        case rel =>
                          have e1 : k - a' - 1 = k - (a' + 1) := by omega
                          rw [e1] at HO
                          exact ⟨a' + 1, c' - 1, b', o' + 6, tailA c' b' o', false, true, by go_num, by omega, by omega, Or.inl ⟨rfl, rfl⟩, Lib.hid (by rw [List.length_drop, HN.out]), Lib.hid (by have := HC.out; omega), Lib.hid (fun h => by have := HC.out; unfold tailA; rw [if_neg (by omega)]), Lib.hid (HO.takeL 1)⟩
                        case measure => simp [intOf] <;> omega
                  · have hak2 : a' = k := by omega
                    rw [show k - a' = 0 by omega] at HO
                    have HAK := Lib.hid hak2
                    clear hak2
                    go_wp2_with (first
                          | (with_reducible refine own_at_box 32 ?_; refine ob_0 HO _ rfl ?_; intro nB WB HOn; (try simp only [List.cons_append, List.nil_append] at HOn); clear HO; have HO := HOn; clear HOn)
                          | (with_reducible refine own_at_alloc 32 ?_; refine oa_0 HO ?_; intro nB WB HOn; (try simp only [List.cons_append, List.nil_append] at HOn); clear HO; have HO := HOn; clear HOn)
                          | (with_reducible refine own_at_load 32 ?_; first | refine ol_0 HO rfl _ _ rfl (by repeat first | apply Has.head | apply Has.tail) rfl ?_ | refine op_0 HO rfl _ _ _ _ rfl (by repeat first | apply Has.head | apply Has.tail) (by repeat first | apply Part.done | apply Part.take | apply Part.skip) ?_)
                          | (with_reducible refine own_at_store 32 ?_; refine os_0 HO _ rfl rfl _ _ rfl (by repeat first | apply Sto.head | apply Sto.tail | apply Patch.put | apply Patch.skip | apply Patch.done) rfl ?_; intro WB HOn; clear HO; have HO := HOn; clear HOn)
                          | (with_reducible refine own_at_box 27 ?_; refine ob_1 HO _ rfl ?_; intro nB WB HOn; (try simp only [List.cons_append, List.nil_append] at HOn); clear HO; have HO := HOn; clear HOn)
                          | (with_reducible refine own_at_alloc 27 ?_; refine oa_1 HO ?_; intro nB WB HOn; (try simp only [List.cons_append, List.nil_append] at HOn); clear HO; have HO := HOn; clear HOn)
                          | (with_reducible refine own_at_load 27 ?_; first | refine ol_1 HO rfl _ _ rfl (by repeat first | apply Has.head | apply Has.tail) rfl ?_ | refine op_1 HO rfl _ _ _ _ rfl (by repeat first | apply Has.head | apply Has.tail) (by repeat first | apply Part.done | apply Part.take | apply Part.skip) ?_)
                          | (with_reducible refine own_at_store 27 ?_; refine os_1 HO _ rfl rfl _ _ rfl (by repeat first | apply Sto.head | apply Sto.tail | apply Patch.put | apply Patch.skip | apply Patch.done) rfl ?_; intro WB HOn; clear HO; have HO := HOn; clear HOn)
                          | (with_reducible refine own_at_box 29 ?_; refine ob_2 HO _ rfl ?_; intro nB WB HOn; (try simp only [List.cons_append, List.nil_append] at HOn); clear HO; have HO := HOn; clear HOn)
                          | (with_reducible refine own_at_alloc 29 ?_; refine oa_2 HO ?_; intro nB WB HOn; (try simp only [List.cons_append, List.nil_append] at HOn); clear HO; have HO := HOn; clear HOn)
                          | (with_reducible refine own_at_load 29 ?_; first | refine ol_2 HO rfl _ _ rfl (by repeat first | apply Has.head | apply Has.tail) rfl ?_ | refine op_2 HO rfl _ _ _ _ rfl (by repeat first | apply Has.head | apply Has.tail) (by repeat first | apply Part.done | apply Part.take | apply Part.skip) ?_)
                          | (with_reducible refine own_at_store 29 ?_; refine os_2 HO _ rfl rfl _ _ rfl (by repeat first | apply Sto.head | apply Sto.tail | apply Patch.put | apply Patch.skip | apply Patch.done) rfl ?_; intro WB HOn; clear HO; have HO := HOn; clear HOn)
                          | (with_reducible refine own_at_box 4 ?_; refine sb_0 HO (.bool _) rfl rfl ?_; intro nB WB HOn; (try simp only [List.cons_append, List.nil_append] at HOn); clear HO; have HO := HOn; clear HOn)
                          | (with_reducible refine own_at_alloc 4 ?_; refine sa_0 HO ?_; intro nB WB HOn; (try simp only [List.cons_append, List.nil_append] at HOn); clear HO; have HO := HOn; clear HOn)
                          | (with_reducible refine own_at_load 4 ?_; refine sl_0 HO rfl _ _ _ _ rfl (by repeat first | apply Has.head | apply Has.tail) rfl ?_)
                          | (with_reducible refine own_at_store 4 ?_; refine st_0 HO (.bool _) rfl rfl _ _ rfl (by repeat first | apply Sto.head | apply Sto.tail | apply Patch.put | apply Patch.skip | apply Patch.done) rfl ?_; intro WB HOn; clear HO; have HO := HOn; clear HOn)
                          | (with_reducible refine own_at_box 3 ?_; refine sb_1 HO (.int .i64 _) rfl rfl ?_; intro nB WB HOn; (try simp only [List.cons_append, List.nil_append] at HOn); clear HO; have HO := HOn; clear HOn)
                          | (with_reducible refine own_at_alloc 3 ?_; refine sa_1 HO ?_; intro nB WB HOn; (try simp only [List.cons_append, List.nil_append] at HOn); clear HO; have HO := HOn; clear HOn)
                          | (with_reducible refine own_at_load 3 ?_; refine sl_1 HO rfl _ _ _ _ rfl (by repeat first | apply Has.head | apply Has.tail) rfl ?_)
                          | (with_reducible refine own_at_store 3 ?_; refine st_1 HO (.int .i64 _) rfl rfl _ _ rfl (by repeat first | apply Sto.head | apply Sto.tail | apply Patch.put | apply Patch.skip | apply Patch.done) rfl ?_; intro WB HOn; clear HO; have HO := HOn; clear HOn)
                          | (with_reducible refine own_at_box 30 ?_; refine sb_2 HO (.slice _ _ _) rfl rfl ?_; intro nB WB HOn; (try simp only [List.cons_append, List.nil_append] at HOn); clear HO; have HO := HOn; clear HOn)
                          | (with_reducible refine own_at_alloc 30 ?_; refine sa_2 HO ?_; intro nB WB HOn; (try simp only [List.cons_append, List.nil_append] at HOn); clear HO; have HO := HOn; clear HOn)
                          | (with_reducible refine own_at_load 30 ?_; refine sl_2 HO rfl _ _ _ _ rfl (by repeat first | apply Has.head | apply Has.tail) rfl ?_)
                          | (with_reducible refine own_at_store 30 ?_; refine st_2 HO (.slice _ _ _) rfl rfl _ _ rfl (by repeat first | apply Sto.head | apply Sto.tail | apply Patch.put | apply Patch.skip | apply Patch.done) rfl ?_; intro WB HOn; clear HO; have HO := HOn; clear HOn)
                          | (go_at_call 18; refine (next_none _ _ _ _ _ _ _ _ _ _ _ _ _ _ _ _ _ _ _ _).mono ?_; rintro e wc ⟨rfl, hb⟩; have HOn := HO.below hb; clear HO hb; have HO := HOn; clear HOn))
                    go_roundw
                    case rel =>
                      have e0 : (0 : Nat) = k - a' := by have := HAK.out; omega
                      rw [e0] at HO
                      have hak2 := HAK.out
                      exact ⟨q + 1, a', c', b', o', A', false, true, by go_num, rfl, by omega, by omega, by omega, by first | exact Or.inl ⟨rfl, rfl⟩ | exact Or.inr ⟨rfl, rfl, rfl⟩ | exact Or.inr ⟨rfl, rfl, by omega⟩, HW, HC, HA, Lib.hid (HO.takeL 1)⟩
                    case measure => simp [intOf] <;> omega
                · go_wp2_with (first
                        | (with_reducible refine own_at_box 32 ?_; refine ob_0 HO _ rfl ?_; intro nB WB HOn; (try simp only [List.cons_append, List.nil_append] at HOn); clear HO; have HO := HOn; clear HOn)
                        | (with_reducible refine own_at_alloc 32 ?_; refine oa_0 HO ?_; intro nB WB HOn; (try simp only [List.cons_append, List.nil_append] at HOn); clear HO; have HO := HOn; clear HOn)
                        | (with_reducible refine own_at_load 32 ?_; first | refine ol_0 HO rfl _ _ rfl (by repeat first | apply Has.head | apply Has.tail) rfl ?_ | refine op_0 HO rfl _ _ _ _ rfl (by repeat first | apply Has.head | apply Has.tail) (by repeat first | apply Part.done | apply Part.take | apply Part.skip) ?_)
                        | (with_reducible refine own_at_store 32 ?_; refine os_0 HO _ rfl rfl _ _ rfl (by repeat first | apply Sto.head | apply Sto.tail | apply Patch.put | apply Patch.skip | apply Patch.done) rfl ?_; intro WB HOn; clear HO; have HO := HOn; clear HOn)
                        | (with_reducible refine own_at_box 27 ?_; refine ob_1 HO _ rfl ?_; intro nB WB HOn; (try simp only [List.cons_append, List.nil_append] at HOn); clear HO; have HO := HOn; clear HOn)
                        | (with_reducible refine own_at_alloc 27 ?_; refine oa_1 HO ?_; intro nB WB HOn; (try simp only [List.cons_append, List.nil_append] at HOn); clear HO; have HO := HOn; clear HOn)
                        | (with_reducible refine own_at_load 27 ?_; first | refine ol_1 HO rfl _ _ rfl (by repeat first | apply Has.head | apply Has.tail) rfl ?_ | refine op_1 HO rfl _ _ _ _ rfl (by repeat first | apply Has.head | apply Has.tail) (by repeat first | apply Part.done | apply Part.take | apply Part.skip) ?_)
                        | (with_reducible refine own_at_store 27 ?_; refine os_1 HO _ rfl rfl _ _ rfl (by repeat first | apply Sto.head | apply Sto.tail | apply Patch.put | apply Patch.skip | apply Patch.done) rfl ?_; intro WB HOn; clear HO; have HO := HOn; clear HOn)
                        | (with_reducible refine own_at_box 29 ?_; refine ob_2 HO _ rfl ?_; intro nB WB HOn; (try simp only [List.cons_append, List.nil_append] at HOn); clear HO; have HO := HOn; clear HOn)
                        | (with_reducible refine own_at_alloc 29 ?_; refine oa_2 HO ?_; intro nB WB HOn; (try simp only [List.cons_append, List.nil_append] at HOn); clear HO; have HO := HOn; clear HOn)
                        | (with_reducible refine own_at_load 29 ?_; first | refine ol_2 HO rfl _ _ rfl (by repeat first | apply Has.head | apply Has.tail) rfl ?_ | refine op_2 HO rfl _ _ _ _ rfl (by repeat first | apply Has.head | apply Has.tail) (by repeat first | apply Part.done | apply Part.take | apply Part.skip) ?_)
                        | (with_reducible refine own_at_store 29 ?_; refine os_2 HO _ rfl rfl _ _ rfl (by repeat first | apply Sto.head | apply Sto.tail | apply Patch.put | apply Patch.skip | apply Patch.done) rfl ?_; intro WB HOn; clear HO; have HO := HOn; clear HOn)
                        | (with_reducible refine own_at_box 4 ?_; refine sb_0 HO (.bool _) rfl rfl ?_; intro nB WB HOn; (try simp only [List.cons_append, List.nil_append] at HOn); clear HO; have HO := HOn; clear HOn)
                        | (with_reducible refine own_at_alloc 4 ?_; refine sa_0 HO ?_; intro nB WB HOn; (try simp only [List.cons_append, List.nil_append] at HOn); clear HO; have HO := HOn; clear HOn)
                        | (with_reducible refine own_at_load 4 ?_; refine sl_0 HO rfl _ _ _ _ rfl (by repeat first | apply Has.head | apply Has.tail) rfl ?_)
                        | (with_reducible refine own_at_store 4 ?_; refine st_0 HO (.bool _) rfl rfl _ _ rfl (by repeat first | apply Sto.head | apply Sto.tail | apply Patch.put | apply Patch.skip | apply Patch.done) rfl ?_; intro WB HOn; clear HO; have HO := HOn; clear HOn)
                        | (with_reducible refine own_at_box 3 ?_; refine sb_1 HO (.int .i64 _) rfl rfl ?_; intro nB WB HOn; (try simp only [List.cons_append, List.nil_append] at HOn); clear HO; have HO := HOn; clear HOn)
                        | (with_reducible refine own_at_alloc 3 ?_; refine sa_1 HO ?_; intro nB WB HOn; (try simp only [List.cons_append, List.nil_append] at HOn); clear HO; have HO := HOn; clear HOn)
                        | (with_reducible refine own_at_load 3 ?_; refine sl_1 HO rfl _ _ _ _ rfl (by repeat first | apply Has.head | apply Has.tail) rfl ?_)
                        | (with_reducible refine own_at_store 3 ?_; refine st_1 HO (.int .i64 _) rfl rfl _ _ rfl (by repeat first | apply Sto.head | apply Sto.tail | apply Patch.put | apply Patch.skip | apply Patch.done) rfl ?_; intro WB HOn; clear HO; have HO := HOn; clear HOn)
                        | (with_reducible refine own_at_box 30 ?_; refine sb_2 HO (.slice _ _ _) rfl rfl ?_; intro nB WB HOn; (try simp only [List.cons_append, List.nil_append] at HOn); clear HO; have HO := HOn; clear HOn)
                        | (with_reducible refine own_at_alloc 30 ?_; refine sa_2 HO ?_; intro nB WB HOn; (try simp only [List.cons_append, List.nil_append] at HOn); clear HO; have HO := HOn; clear HOn)
                        | (with_reducible refine own_at_load 30 ?_; refine sl_2 HO rfl _ _ _ _ rfl (by repeat first | apply Has.head | apply Has.tail) rfl ?_)
                        | (with_reducible refine own_at_store 30 ?_; refine st_2 HO (.slice _ _ _) rfl rfl _ _ rfl (by repeat first | apply Sto.head | apply Sto.tail | apply Patch.put | apply Patch.skip | apply Patch.done) rfl ?_; intro WB HOn; clear HO; have HO := HOn; clear HOn)
                        | (go_at_call 18; refine (next_frozen _ _ _ _ _ _ _ _ _ _ _ _ _ _ _ _ _ _ _ _ _).mono ?_; rintro e wc ⟨rfl, hb⟩; have HOn := HO.below hb; clear HO hb; have HO := HOn; clear HOn))
                  go_roundw
                  case rel => exact ⟨q + 1, a', c', b', o', A', true, false, by go_num, rfl, by omega, by omega, by omega, by first | exact Or.inl ⟨rfl, rfl⟩ | exact Or.inr ⟨rfl, rfl, rfl⟩ | exact Or.inr ⟨rfl, rfl, by omega⟩, HW, HC, HA, Lib.hid (HO.takeL 1)⟩
                  case measure => simp [intOf] <;> omega
            · clear hak
              go_wp2_with (first
      | (with_reducible refine own_at_box 32 ?_; refine ob_0 HO _ rfl ?_; intro nB WB HOn; (try simp only [List.cons_append, List.nil_append] at HOn); clear HO; have HO := HOn; clear HOn)
      | (with_reducible refine own_at_alloc 32 ?_; refine oa_0 HO ?_; intro nB WB HOn; (try simp only [List.cons_append, List.nil_append] at HOn); clear HO; have HO := HOn; clear HOn)
      | (with_reducible refine own_at_load 32 ?_; first | refine ol_0 HO rfl _ _ rfl (by repeat first | apply Has.head | apply Has.tail) rfl ?_ | refine op_0 HO rfl _ _ _ _ rfl (by repeat first | apply Has.head | apply Has.tail) (by repeat first | apply Part.done | apply Part.take | apply Part.skip) ?_)
      | (with_reducible refine own_at_store 32 ?_; refine os_0 HO _ rfl rfl _ _ rfl (by repeat first | apply Sto.head | apply Sto.tail | apply Patch.put | apply Patch.skip | apply Patch.done) rfl ?_; intro WB HOn; clear HO; have HO := HOn; clear HOn)
      | (with_reducible refine own_at_box 27 ?_; refine ob_1 HO _ rfl ?_; intro nB WB HOn; (try simp only [List.cons_append, List.nil_append] at HOn); clear HO; have HO := HOn; clear HOn)
      | (with_reducible refine own_at_alloc 27 ?_; refine oa_1 HO ?_; intro nB WB HOn; (try simp only [List.cons_append, List.nil_append] at HOn); clear HO; have HO := HOn; clear HOn)
      | (with_reducible refine own_at_load 27 ?_; first | refine ol_1 HO rfl _ _ rfl (by repeat first | apply Has.head | apply Has.tail) rfl ?_ | refine op_1 HO rfl _ _ _ _ rfl (by repeat first | apply Has.head | apply Has.tail) (by repeat first | apply Part.done | apply Part.take | apply Part.skip) ?_)
      | (with_reducible refine own_at_store 27 ?_; refine os_1 HO _ rfl rfl _ _ rfl (by repeat first | apply Sto.head | apply Sto.tail | apply Patch.put | apply Patch.skip | apply Patch.done) rfl ?_; intro WB HOn; clear HO; have HO := HOn; clear HOn)
      | (with_reducible refine own_at_box 29 ?_; refine ob_2 HO _ rfl ?_; intro nB WB HOn; (try simp only [List.cons_append, List.nil_append] at HOn); clear HO; have HO := HOn; clear HOn)
      | (with_reducible refine own_at_alloc 29 ?_; refine oa_2 HO ?_; intro nB WB HOn; (try simp only [List.cons_append, List.nil_append] at HOn); clear HO; have HO := HOn; clear HOn)
      | (with_reducible refine own_at_load 29 ?_; first | refine ol_2 HO rfl _ _ rfl (by repeat first | apply Has.head | apply Has.tail) rfl ?_ | refine op_2 HO rfl _ _ _ _ rfl (by repeat first | apply Has.head | apply Has.tail) (by repeat first | apply Part.done | apply Part.take | apply Part.skip) ?_)
      | (with_reducible refine own_at_store 29 ?_; refine os_2 HO _ rfl rfl _ _ rfl (by repeat first | apply Sto.head | apply Sto.tail | apply Patch.put | apply Patch.skip | apply Patch.done) rfl ?_; intro WB HOn; clear HO; have HO := HOn; clear HOn)
      | (with_reducible refine own_at_box 4 ?_; refine sb_0 HO (.bool _) rfl rfl ?_; intro nB WB HOn; (try simp only [List.cons_append, List.nil_append] at HOn); clear HO; have HO := HOn; clear HOn)
      | (with_reducible refine own_at_alloc 4 ?_; refine sa_0 HO ?_; intro nB WB HOn; (try simp only [List.cons_append, List.nil_append] at HOn); clear HO; have HO := HOn; clear HOn)
      | (with_reducible refine own_at_load 4 ?_; refine sl_0 HO rfl _ _ _ _ rfl (by repeat first | apply Has.head | apply Has.tail) rfl ?_)
      | (with_reducible refine own_at_store 4 ?_; refine st_0 HO (.bool _) rfl rfl _ _ rfl (by repeat first | apply Sto.head | apply Sto.tail | apply Patch.put | apply Patch.skip | apply Patch.done) rfl ?_; intro WB HOn; clear HO; have HO := HOn; clear HOn)
      | (with_reducible refine own_at_box 3 ?_; refine sb_1 HO (.int .i64 _) rfl rfl ?_; intro nB WB HOn; (try simp only [List.cons_append, List.nil_append] at HOn); clear HO; have HO := HOn; clear HOn)
      | (with_reducible refine own_at_alloc 3 ?_; refine sa_1 HO ?_; intro nB WB HOn; (try simp only [List.cons_append, List.nil_append] at HOn); clear HO; have HO := HOn; clear HOn)
      | (with_reducible refine own_at_load 3 ?_; refine sl_1 HO rfl _ _ _ _ rfl (by repeat first | apply Has.head | apply Has.tail) rfl ?_)
      | (with_reducible refine own_at_store 3 ?_; refine st_1 HO (.int .i64 _) rfl rfl _ _ rfl (by repeat first | apply Sto.head | apply Sto.tail | apply Patch.put | apply Patch.skip | apply Patch.done) rfl ?_; intro WB HOn; clear HO; have HO := HOn; clear HOn)
      | (with_reducible refine own_at_box 30 ?_; refine sb_2 HO (.slice _ _ _) rfl rfl ?_; intro nB WB HOn; (try simp only [List.cons_append, List.nil_append] at HOn); clear HO; have HO := HOn; clear HOn)
      | (with_reducible refine own_at_alloc 30 ?_; refine sa_2 HO ?_; intro nB WB HOn; (try simp only [List.cons_append, List.nil_append] at HOn); clear HO; have HO := HOn; clear HOn)
      | (with_reducible refine own_at_load 30 ?_; refine sl_2 HO rfl _ _ _ _ rfl (by repeat first | apply Has.head | apply Has.tail) rfl ?_)
      | (with_reducible refine own_at_store 30 ?_; refine st_2 HO (.slice _ _ _) rfl rfl _ _ rfl (by repeat first | apply Sto.head | apply Sto.tail | apply Patch.put | apply Patch.skip | apply Patch.done) rfl ?_; intro WB HOn; clear HO; have HO := HOn; clear HOn)
      | (go_at_call 11; refine (allow_no_frozen _ _ _ _ _ _ _ _ _ _ _ _ _ _ _ _ _ _ _ _ _ _).mono ?_; rintro e wc ⟨rfl, hb⟩; have HOn := HO.below hb; clear HO hb; have HO := HOn; clear HOn))
              simp only [Act.put, List.setIfInBounds_toArray, List.set_cons_zero, List.set_cons_succ]
              go_loopw [10] (fun at' wy => ∃ (a' c' b' o' : Nat) (A' : Option Addr) (f s : Bool), at' = .int .i64 a' ∧ a ≤ a' ∧ a' ≤ k ∧ ((f = false ∧ s = true) ∨ (f = true ∧ s = false ∧ a < a')) ∧ Hid ((ls.drop a').length = k - a') ∧ Hid (k - a' ≤ c' ∧ c' ≤ maxLen) ∧ Hid (0 < k - a' → A' = some ⟨b', o', none⟩) ∧ Hid (Own w wy [(n0, [i6 1, uw 0, .bool false, i6 0, .bool false, .bool false, i6 0, uw 0, .bool true, .bool f, .bool s, i6 0, i6 0, i6 0, i6 0, uw 0, i6 0, .bool false, .slice A' (k - a') c'])] [(b', o', cellsR inL (ls.drop a')), (lb, lo, cellsR inL ls)])) (fun at' _ => k - (intOf at').toNat)
              case atStart => exact ⟨a, c, b, o, A, false, true, rfl, by omega, by omega, Or.inl ⟨rfl, rfl⟩, HW, HC, HA, Lib.hid HO⟩
              case round =>
                clear HO HW HC HA
                obtain ⟨a', c', b', o', A', f, s, rfl, haa, hak', hfs, HW, HC, HA, HOH⟩ := hrel
                have HO := HOH.out
                clear HOH
                rcases hfs with ⟨rfl, rfl⟩ | ⟨rfl, rfl, hlt'⟩
                · by_cases hlt' : a' < k
                  · have hki' : ¬ (k : Int) ≤ (a' : Int) := by omega
                    have hki2 : (a' : Int) < (k : Int) := by omega
                    obtain ⟨x, hx⟩ : ∃ x, ls[a']? = some x := ⟨_, List.getElem?_eq_getElem (by rw [HN.out]; exact hlt')⟩
                    obtain rfl : LA = some ⟨lb, lo, none⟩ := HLA.out (by omega)
                    obtain rfl : A' = some ⟨b', o', none⟩ := HA.out (by omega)
                    obtain ⟨x0, x1, x2, x3, x4, x5⟩ := x
                    have HX := Lib.hid hx
                    have HX2 : Hid ((ls.drop a')[0]? = some ⟨x0, x1, x2, x3, x4, x5⟩) := Lib.hid (by rw [List.getElem?_drop, Nat.add_zero]; exact hx)
                    clear hx
                    by_cases h1 : 1 ≤ x0
                    · by_cases h2 : x0 ≤ 4
                      · have HP : Hid (pressB x0 = true) := Lib.hid (by unfold pressB; simp [h1, h2])
                        go_upto_region 19 with (first
                    | (with_reducible refine own_at_box 32 ?_; refine ob_0 HO _ rfl ?_; intro nB WB HOn; (try simp only [List.cons_append, List.nil_append] at HOn); clear HO; have HO := HOn; clear HOn)
                    | (with_reducible refine own_at_alloc 32 ?_; refine oa_0 HO ?_; intro nB WB HOn; (try simp only [List.cons_append, List.nil_append] at HOn); clear HO; have HO := HOn; clear HOn)
                    | (with_reducible refine own_at_load 32 ?_; first | refine ol_0 HO rfl _ _ rfl (by repeat first | apply Has.head | apply Has.tail) rfl ?_ | refine op_0 HO rfl _ _ _ _ rfl (by repeat first | apply Has.head | apply Has.tail) (by repeat first | apply Part.done | apply Part.take | apply Part.skip) ?_)
                    | (with_reducible refine own_at_store 32 ?_; refine os_0 HO _ rfl rfl _ _ rfl (by repeat first | apply Sto.head | apply Sto.tail | apply Patch.put | apply Patch.skip | apply Patch.done) rfl ?_; intro WB HOn; clear HO; have HO := HOn; clear HOn)
                    | (with_reducible refine own_at_box 27 ?_; refine ob_1 HO _ rfl ?_; intro nB WB HOn; (try simp only [List.cons_append, List.nil_append] at HOn); clear HO; have HO := HOn; clear HOn)
                    | (with_reducible refine own_at_alloc 27 ?_; refine oa_1 HO ?_; intro nB WB HOn; (try simp only [List.cons_append, List.nil_append] at HOn); clear HO; have HO := HOn; clear HOn)
                    | (with_reducible refine own_at_load 27 ?_; first | refine ol_1 HO rfl _ _ rfl (by repeat first | apply Has.head | apply Has.tail) rfl ?_ | refine op_1 HO rfl _ _ _ _ rfl (by repeat first | apply Has.head | apply Has.tail) (by repeat first | apply Part.done | apply Part.take | apply Part.skip) ?_)
                    | (with_reducible refine own_at_store 27 ?_; refine os_1 HO _ rfl rfl _ _ rfl (by repeat first | apply Sto.head | apply Sto.tail | apply Patch.put | apply Patch.skip | apply Patch.done) rfl ?_; intro WB HOn; clear HO; have HO := HOn; clear HOn)
                    | (with_reducible refine own_at_box 29 ?_; refine ob_2 HO _ rfl ?_; intro nB WB HOn; (try simp only [List.cons_append, List.nil_append] at HOn); clear HO; have HO := HOn; clear HOn)
                    | (with_reducible refine own_at_alloc 29 ?_; refine oa_2 HO ?_; intro nB WB HOn; (try simp only [List.cons_append, List.nil_append] at HOn); clear HO; have HO := HOn; clear HOn)
                    | (with_reducible refine own_at_load 29 ?_; first | refine ol_2 HO rfl _ _ rfl (by repeat first | apply Has.head | apply Has.tail) rfl ?_ | refine op_2 HO rfl _ _ _ _ rfl (by repeat first | apply Has.head | apply Has.tail) (by repeat first | apply Part.done | apply Part.take | apply Part.skip) ?_)
                    | (with_reducible refine own_at_store 29 ?_; refine os_2 HO _ rfl rfl _ _ rfl (by repeat first | apply Sto.head | apply Sto.tail | apply Patch.put | apply Patch.skip | apply Patch.done) rfl ?_; intro WB HOn; clear HO; have HO := HOn; clear HOn)
                    | (with_reducible refine own_at_box 4 ?_; refine sb_0 HO (.bool _) rfl rfl ?_; intro nB WB HOn; (try simp only [List.cons_append, List.nil_append] at HOn); clear HO; have HO := HOn; clear HOn)
                    | (with_reducible refine own_at_alloc 4 ?_; refine sa_0 HO ?_; intro nB WB HOn; (try simp only [List.cons_append, List.nil_append] at HOn); clear HO; have HO := HOn; clear HOn)
                    | (with_reducible refine own_at_load 4 ?_; refine sl_0 HO rfl _ _ _ _ rfl (by repeat first | apply Has.head | apply Has.tail) rfl ?_)
                    | (with_reducible refine own_at_store 4 ?_; refine st_0 HO (.bool _) rfl rfl _ _ rfl (by repeat first | apply Sto.head | apply Sto.tail | apply Patch.put | apply Patch.skip | apply Patch.done) rfl ?_; intro WB HOn; clear HO; have HO := HOn; clear HOn)
                    | (with_reducible refine own_at_box 3 ?_; refine sb_1 HO (.int .i64 _) rfl rfl ?_; intro nB WB HOn; (try simp only [List.cons_append, List.nil_append] at HOn); clear HO; have HO := HOn; clear HOn)
                    | (with_reducible refine own_at_alloc 3 ?_; refine sa_1 HO ?_; intro nB WB HOn; (try simp only [List.cons_append, List.nil_append] at HOn); clear HO; have HO := HOn; clear HOn)
                    | (with_reducible refine own_at_load 3 ?_; refine sl_1 HO rfl _ _ _ _ rfl (by repeat first | apply Has.head | apply Has.tail) rfl ?_)
                    | (with_reducible refine own_at_store 3 ?_; refine st_1 HO (.int .i64 _) rfl rfl _ _ rfl (by repeat first | apply Sto.head | apply Sto.tail | apply Patch.put | apply Patch.skip | apply Patch.done) rfl ?_; intro WB HOn; clear HO; have HO := HOn; clear HOn)
                    | (with_reducible refine own_at_box 30 ?_; refine sb_2 HO (.slice _ _ _) rfl rfl ?_; intro nB WB HOn; (try simp only [List.cons_append, List.nil_append] at HOn); clear HO; have HO := HOn; clear HOn)
                    | (with_reducible refine own_at_alloc 30 ?_; refine sa_2 HO ?_; intro nB WB HOn; (try simp only [List.cons_append, List.nil_append] at HOn); clear HO; have HO := HOn; clear HOn)
                    | (with_reducible refine own_at_load 30 ?_; refine sl_2 HO rfl _ _ _ _ rfl (by repeat first | apply Has.head | apply Has.tail) rfl ?_)
                    | (with_reducible refine own_at_store 30 ?_; refine st_2 HO (.slice _ _ _) rfl rfl _ _ rfl (by repeat first | apply Sto.head | apply Sto.tail | apply Patch.put | apply Patch.skip | apply Patch.done) rfl ?_; intro WB HOn; clear HO; have HO := HOn; clear HOn)
                    | (go_at_call 18; refine (next_at _ _ _ _ _ _ _ _ _ _ _ _ _ _ _ _ _ (k - a') c' (ls.drop a') b' o' _ _ _ _ _ _ _ HW.out HC.out.1 HX2.out (fun hne => ⟨(HO.rng 0 _ _ _ rfl hne).1, (HO.rng 0 _ _ _ rfl hne).2.1⟩) (by omega) true false (tailA c' b' o') (by rw [HP.out]; rfl) (by rw [HP.out]; rfl) rfl).mono ?_; rintro e wc ⟨rfl, hb⟩; have HOn := (HO.below hb).dropHead inL_len (by decide) 1 (o' + 6) (ls.drop (a' + 1)) (by omega) (by rw [List.drop_drop]); clear HO hb; have HO := HOn; clear HOn))
                        have uc0 := (HO.blk 2 _ _ rfl).cell 0 rfl
                        have ye0 := HO.elemCell inL_len (by decide) 1 _ _ ls rfl HX.out 0 rfl
                        have uc1 := (HO.blk 2 _ _ rfl).cell 1 rfl
                        have ye1 := HO.elemCell inL_len (by decide) 1 _ _ ls rfl HX.out 1 rfl
                        have uc2 := (HO.blk 2 _ _ rfl).cell 2 rfl
                        have ye2 := HO.elemCell inL_len (by decide) 1 _ _ ls rfl HX.out 2 rfl
                        have uc3 := (HO.blk 2 _ _ rfl).cell 3 rfl
                        have ye3 := HO.elemCell inL_len (by decide) 1 _ _ ls rfl HX.out 3 rfl
                        have uc4 := (HO.blk 2 _ _ rfl).cell 4 rfl
                        have ye4 := HO.elemCell inL_len (by decide) 1 _ _ ls rfl HX.out 4 rfl
                        have uc5 := (HO.blk 2 _ _ rfl).cell 5 rfl
                        have ye5 := HO.elemCell inL_len (by decide) 1 _ _ ls rfl HX.out 5 rfl
                        dsimp only at ye0 ye1 ye2 ye3 ye4 ye5
                        rw [Nat.add_zero] at ye0
                        go_quiet (fail)
                        all_goals
                          clear uc0 uc1 uc2 uc3 uc4 uc5 ye0 ye1 ye2 ye3 ye4 ye5
                          have HOn := HO.drewN nq
                          clear HO
                          have HO := HOn
                          clear HOn
                          go_wp2_with (first
                                | (with_reducible refine own_at_box 32 ?_; refine ob_0 HO _ rfl ?_; intro nB WB HOn; (try simp only [List.cons_append, List.nil_append] at HOn); clear HO; have HO := HOn; clear HOn)
                                | (with_reducible refine own_at_alloc 32 ?_; refine oa_0 HO ?_; intro nB WB HOn; (try simp only [List.cons_append, List.nil_append] at HOn); clear HO; have HO := HOn; clear HOn)
                                | (with_reducible refine own_at_load 32 ?_; first | refine ol_0 HO rfl _ _ rfl (by repeat first | apply Has.head | apply Has.tail) rfl ?_ | refine op_0 HO rfl _ _ _ _ rfl (by repeat first | apply Has.head | apply Has.tail) (by repeat first | apply Part.done | apply Part.take | apply Part.skip) ?_)
                                | (with_reducible refine own_at_store 32 ?_; refine os_0 HO _ rfl rfl _ _ rfl (by repeat first | apply Sto.head | apply Sto.tail | apply Patch.put | apply Patch.skip | apply Patch.done) rfl ?_; intro WB HOn; clear HO; have HO := HOn; clear HOn)
                                | (with_reducible refine own_at_box 27 ?_; refine ob_1 HO _ rfl ?_; intro nB WB HOn; (try simp only [List.cons_append, List.nil_append] at HOn); clear HO; have HO := HOn; clear HOn)
                                | (with_reducible refine own_at_alloc 27 ?_; refine oa_1 HO ?_; intro nB WB HOn; (try simp only [List.cons_append, List.nil_append] at HOn); clear HO; have HO := HOn; clear HOn)
                                | (with_reducible refine own_at_load 27 ?_; first | refine ol_1 HO rfl _ _ rfl (by repeat first | apply Has.head | apply Has.tail) rfl ?_ | refine op_1 HO rfl _ _ _ _ rfl (by repeat first | apply Has.head | apply Has.tail) (by repeat first | apply Part.done | apply Part.take | apply Part.skip) ?_)
                                | (with_reducible refine own_at_store 27 ?_; refine os_1 HO _ rfl rfl _ _ rfl (by repeat first | apply Sto.head | apply Sto.tail | apply Patch.put | apply Patch.skip | apply Patch.done) rfl ?_; intro WB HOn; clear HO; have HO := HOn; clear HOn)
                                | (with_reducible refine own_at_box 29 ?_; refine ob_2 HO _ rfl ?_; intro nB WB HOn; (try simp only [List.cons_append, List.nil_append] at HOn); clear HO; have HO := HOn; clear HOn)
                                | (with_reducible refine own_at_alloc 29 ?_; refine oa_2 HO ?_; intro nB WB HOn; (try simp only [List.cons_append, List.nil_append] at HOn); clear HO; have HO := HOn; clear HOn)
                                | (with_reducible refine own_at_load 29 ?_; first | refine ol_2 HO rfl _ _ rfl (by repeat first | apply Has.head | apply Has.tail) rfl ?_ | refine op_2 HO rfl _ _ _ _ rfl (by repeat first | apply Has.head | apply Has.tail) (by repeat first | apply Part.done | apply Part.take | apply Part.skip) ?_)
                                | (with_reducible refine own_at_store 29 ?_; refine os_2 HO _ rfl rfl _ _ rfl (by repeat first | apply Sto.head | apply Sto.tail | apply Patch.put | apply Patch.skip | apply Patch.done) rfl ?_; intro WB HOn; clear HO; have HO := HOn; clear HOn)
                                | (with_reducible refine own_at_box 4 ?_; refine sb_0 HO (.bool _) rfl rfl ?_; intro nB WB HOn; (try simp only [List.cons_append, List.nil_append] at HOn); clear HO; have HO := HOn; clear HOn)
                                | (with_reducible refine own_at_alloc 4 ?_; refine sa_0 HO ?_; intro nB WB HOn; (try simp only [List.cons_append, List.nil_append] at HOn); clear HO; have HO := HOn; clear HOn)
                                | (with_reducible refine own_at_load 4 ?_; refine sl_0 HO rfl _ _ _ _ rfl (by repeat first | apply Has.head | apply Has.tail) rfl ?_)
                                | (with_reducible refine own_at_store 4 ?_; refine st_0 HO (.bool _) rfl rfl _ _ rfl (by repeat first | apply Sto.head | apply Sto.tail | apply Patch.put | apply Patch.skip | apply Patch.done) rfl ?_; intro WB HOn; clear HO; have HO := HOn; clear HOn)
                                | (with_reducible refine own_at_box 3 ?_; refine sb_1 HO (.int .i64 _) rfl rfl ?_; intro nB WB HOn; (try simp only [List.cons_append, List.nil_append] at HOn); clear HO; have HO := HOn; clear HOn)
                                | (with_reducible refine own_at_alloc 3 ?_; refine sa_1 HO ?_; intro nB WB HOn; (try simp only [List.cons_append, List.nil_append] at HOn); clear HO; have HO := HOn; clear HOn)
                                | (with_reducible refine own_at_load 3 ?_; refine sl_1 HO rfl _ _ _ _ rfl (by repeat first | apply Has.head | apply Has.tail) rfl ?_)
                                | (with_reducible refine own_at_store 3 ?_; refine st_1 HO (.int .i64 _) rfl rfl _ _ rfl (by repeat first | apply Sto.head | apply Sto.tail | apply Patch.put | apply Patch.skip | apply Patch.done) rfl ?_; intro WB HOn; clear HO; have HO := HOn; clear HOn)
                                | (with_reducible refine own_at_box 30 ?_; refine sb_2 HO (.slice _ _ _) rfl rfl ?_; intro nB WB HOn; (try simp only [List.cons_append, List.nil_append] at HOn); clear HO; have HO := HOn; clear HOn)
                                | (with_reducible refine own_at_alloc 30 ?_; refine sa_2 HO ?_; intro nB WB HOn; (try simp only [List.cons_append, List.nil_append] at HOn); clear HO; have HO := HOn; clear HOn)
                                | (with_reducible refine own_at_load 30 ?_; refine sl_2 HO rfl _ _ _ _ rfl (by repeat first | apply Has.head | apply Has.tail) rfl ?_)
                                | (with_reducible refine own_at_store 30 ?_; refine st_2 HO (.slice _ _ _) rfl rfl _ _ rfl (by repeat first | apply Sto.head | apply Sto.tail | apply Patch.put | apply Patch.skip | apply Patch.done) rfl ?_; intro WB HOn; clear HO; have HO := HOn; clear HOn)
                                | (go_at_call 14; refine (frozen_f _ _ _ _ _ _ _ _ _ _ _ _ _ _ _ _ _ _ _ _ _ _).mono ?_; rintro e wc ⟨rfl, hb⟩; have HOn := HO.below hb; clear HO hb; have HO := HOn; clear HOn))
                          go_roundw
                          case rel =>
                            have e1 : k - a' - 1 = k - (a' + 1) := by omega
                            rw [e1] at HO
                            exact ⟨a' + 1, c' - 1, b', o' + 6, tailA c' b' o', true, false, by go_num, by omega, by omega, Or.inr ⟨rfl, rfl, by omega⟩, Lib.hid (by rw [List.length_drop, HN.out]), Lib.hid (by have := HC.out; omega), Lib.hid (fun h => by have := HC.out; unfold tailA; rw [if_neg (by omega)]), Lib.hid (HO.takeL 1)⟩
                          case measure => simp [intOf] <;> omega
                      · have HP : Hid (pressB x0 = false) := Lib.hid (by unfold pressB; simp [h2])
                        go_upto_region 19 with (first
                    | (with_reducible refine own_at_box 32 ?_; refine ob_0 HO _ rfl ?_; intro nB WB HOn; (try simp only [List.cons_append, List.nil_append] at HOn); clear HO; have HO := HOn; clear HOn)
                    | (with_reducible refine own_at_alloc 32 ?_; refine oa_0 HO ?_; intro nB WB HOn; (try simp only [List.cons_append, List.nil_append] at HOn); clear HO; have HO := HOn; clear HOn)
                    | (with_reducible refine own_at_load 32 ?_; first | refine ol_0 HO rfl _ _ rfl (by repeat first | apply Has.head | apply Has.tail) rfl ?_ | refine op_0 HO rfl _ _ _ _ rfl (by repeat first | apply Has.head | apply Has.tail) (by repeat first | apply Part.done | apply Part.take | apply Part.skip) ?_)
                    | (with_reducible refine own_at_store 32 ?_; refine os_0 HO _ rfl rfl _ _ rfl (by repeat first | apply Sto.head | apply Sto.tail | apply Patch.put | apply Patch.skip | apply Patch.done) rfl ?_; intro WB HOn; clear HO; have HO := HOn; clear HOn)
                    | (with_reducible refine own_at_box 27 ?_; refine ob_1 HO _ rfl ?_; intro nB WB HOn; (try simp only [List.cons_append, List.nil_append] at HOn); clear HO; have HO := HOn; clear HOn)
                    | (with_reducible refine own_at_alloc 27 ?_; refine oa_1 HO ?_; intro nB WB HOn; (try simp only [List.cons_append, List.nil_append] at HOn); clear HO; have HO := HOn; clear HOn)
                    | (with_reducible refine own_at_load 27 ?_; first | refine ol_1 HO rfl _ _ rfl (by repeat first | apply Has.head | apply Has.tail) rfl ?_ | refine op_1 HO rfl _ _ _ _ rfl (by repeat first | apply Has.head | apply Has.tail) (by repeat first | apply Part.done | apply Part.take | apply Part.skip) ?_)
                    | (with_reducible refine own_at_store 27 ?_; refine os_1 HO _ rfl rfl _ _ rfl (by repeat first | apply Sto.head | apply Sto.tail | apply Patch.put | apply Patch.skip | apply Patch.done) rfl ?_; intro WB HOn; clear HO; have HO := HOn; clear HOn)
                    | (with_reducible refine own_at_box 29 ?_; refine ob_2 HO _ rfl ?_; intro nB WB HOn; (try simp only [List.cons_append, List.nil_append] at HOn); clear HO; have HO := HOn; clear HOn)
                    | (with_reducible refine own_at_alloc 29 ?_; refine oa_2 HO ?_; intro nB WB HOn; (try simp only [List.cons_append, List.nil_append] at HOn); clear HO; have HO := HOn; clear HOn)
                    | (with_reducible refine own_at_load 29 ?_; first | refine ol_2 HO rfl _ _ rfl (by repeat first | apply Has.head | apply Has.tail) rfl ?_ | refine op_2 HO rfl _ _ _ _ rfl (by repeat first | apply Has.head | apply Has.tail) (by repeat first | apply Part.done | apply Part.take | apply Part.skip) ?_)
                    | (with_reducible refine own_at_store 29 ?_; refine os_2 HO _ rfl rfl _ _ rfl (by repeat first | apply Sto.head | apply Sto.tail | apply Patch.put | apply Patch.skip | apply Patch.done) rfl ?_; intro WB HOn; clear HO; have HO := HOn; clear HOn)
                    | (with_reducible refine own_at_box 4 ?_; refine sb_0 HO (.bool _) rfl rfl ?_; intro nB WB HOn; (try simp only [List.cons_append, List.nil_append] at HOn); clear HO; have HO := HOn; clear HOn)
                    | (with_reducible refine own_at_alloc 4 ?_; refine sa_0 HO ?_; intro nB WB HOn; (try simp only [List.cons_append, List.nil_append] at HOn); clear HO; have HO := HOn; clear HOn)
                    | (with_reducible refine own_at_load 4 ?_; refine sl_0 HO rfl _ _ _ _ rfl (by repeat first | apply Has.head | apply Has.tail) rfl ?_)
                    | (with_reducible refine own_at_store 4 ?_; refine st_0 HO (.bool _) rfl rfl _ _ rfl (by repeat first | apply Sto.head | apply Sto.tail | apply Patch.put | apply Patch.skip | apply Patch.done) rfl ?_; intro WB HOn; clear HO; have HO := HOn; clear HOn)
                    | (with_reducible refine own_at_box 3 ?_; refine sb_1 HO (.int .i64 _) rfl rfl ?_; intro nB WB HOn; (try simp only [List.cons_append, List.nil_append] at HOn); clear HO; have HO := HOn; clear HOn)
                    | (with_reducible refine own_at_alloc 3 ?_; refine sa_1 HO ?_; intro nB WB HOn; (try simp only [List.cons_append, List.nil_append] at HOn); clear HO; have HO := HOn; clear HOn)
                    | (with_reducible refine own_at_load 3 ?_; refine sl_1 HO rfl _ _ _ _ rfl (by repeat first | apply Has.head | apply Has.tail) rfl ?_)
                    | (with_reducible refine own_at_store 3 ?_; refine st_1 HO (.int .i64 _) rfl rfl _ _ rfl (by repeat first | apply Sto.head | apply Sto.tail | apply Patch.put | apply Patch.skip | apply Patch.done) rfl ?_; intro WB HOn; clear HO; have HO := HOn; clear HOn)
                    | (with_reducible refine own_at_box 30 ?_; refine sb_2 HO (.slice _ _ _) rfl rfl ?_; intro nB WB HOn; (try simp only [List.cons_append, List.nil_append] at HOn); clear HO; have HO := HOn; clear HOn)
                    | (with_reducible refine own_at_alloc 30 ?_; refine sa_2 HO ?_; intro nB WB HOn; (try simp only [List.cons_append, List.nil_append] at HOn); clear HO; have HO := HOn; clear HOn)
                    | (with_reducible refine own_at_load 30 ?_; refine sl_2 HO rfl _ _ _ _ rfl (by repeat first | apply Has.head | apply Has.tail) rfl ?_)
                    | (with_reducible refine own_at_store 30 ?_; refine st_2 HO (.slice _ _ _) rfl rfl _ _ rfl (by repeat first | apply Sto.head | apply Sto.tail | apply Patch.put | apply Patch.skip | apply Patch.done) rfl ?_; intro WB HOn; clear HO; have HO := HOn; clear HOn)
                    | (go_at_call 18; refine (next_at _ _ _ _ _ _ _ _ _ _ _ _ _ _ _ _ _ (k - a') c' (ls.drop a') b' o' _ _ _ _ _ _ _ HW.out HC.out.1 HX2.out (fun hne => ⟨(HO.rng 0 _ _ _ rfl hne).1, (HO.rng 0 _ _ _ rfl hne).2.1⟩) (by omega) false true (tailA c' b' o') (by rw [HP.out]; rfl) (by rw [HP.out]; rfl) rfl).mono ?_; rintro e wc ⟨rfl, hb⟩; have HOn := (HO.below hb).dropHead inL_len (by decide) 1 (o' + 6) (ls.drop (a' + 1)) (by omega) (by rw [List.drop_drop]); clear HO hb; have HO := HOn; clear HOn))
                        have uc0 := (HO.blk 2 _ _ rfl).cell 0 rfl
                        have ye0 := HO.elemCell inL_len (by decide) 1 _ _ ls rfl HX.out 0 rfl
                        have uc1 := (HO.blk 2 _ _ rfl).cell 1 rfl
                        have ye1 := HO.elemCell inL_len (by decide) 1 _ _ ls rfl HX.out 1 rfl
                        have uc2 := (HO.blk 2 _ _ rfl).cell 2 rfl
                        have ye2 := HO.elemCell inL_len (by decide) 1 _ _ ls rfl HX.out 2 rfl
                        have uc3 := (HO.blk 2 _ _ rfl).cell 3 rfl
                        have ye3 := HO.elemCell inL_len (by decide) 1 _ _ ls rfl HX.out 3 rfl
                        have uc4 := (HO.blk 2 _ _ rfl).cell 4 rfl
                        have ye4 := HO.elemCell inL_len (by decide) 1 _ _ ls rfl HX.out 4 rfl
                        have uc5 := (HO.blk 2 _ _ rfl).cell 5 rfl
                        have ye5 := HO.elemCell inL_len (by decide) 1 _ _ ls rfl HX.out 5 rfl
                        dsimp only at ye0 ye1 ye2 ye3 ye4 ye5
                        rw [Nat.add_zero] at ye0
                        go_quiet (fail)
                        all_goals
                          clear uc0 uc1 uc2 uc3 uc4 uc5 ye0 ye1 ye2 ye3 ye4 ye5
                          have HOn := HO.drewN nq
                          clear HO
                          have HO := HOn
                          clear HOn
                          go_wp2_with (first
                                | (with_reducible refine own_at_box 32 ?_; refine ob_0 HO _ rfl ?_; intro nB WB HOn; (try simp only [List.cons_append, List.nil_append] at HOn); clear HO; have HO := HOn; clear HOn)
                                | (with_reducible refine own_at_alloc 32 ?_; refine oa_0 HO ?_; intro nB WB HOn; (try simp only [List.cons_append, List.nil_append] at HOn); clear HO; have HO := HOn; clear HOn)
                                | (with_reducible refine own_at_load 32 ?_; first | refine ol_0 HO rfl _ _ rfl (by repeat first | apply Has.head | apply Has.tail) rfl ?_ | refine op_0 HO rfl _ _ _ _ rfl (by repeat first | apply Has.head | apply Has.tail) (by repeat first | apply Part.done | apply Part.take | apply Part.skip) ?_)
                                | (with_reducible refine own_at_store 32 ?_; refine os_0 HO _ rfl rfl _ _ rfl (by repeat first | apply Sto.head | apply Sto.tail | apply Patch.put | apply Patch.skip | apply Patch.done) rfl ?_; intro WB HOn; clear HO; have HO := HOn; clear HOn)
                                | (with_reducible refine own_at_box 27 ?_; refine ob_1 HO _ rfl ?_; intro nB WB HOn; (try simp only [List.cons_append, List.nil_append] at HOn); clear HO; have HO := HOn; clear HOn)
                                | (with_reducible refine own_at_alloc 27 ?_; refine oa_1 HO ?_; intro nB WB HOn; (try simp only [List.cons_append, List.nil_append] at HOn); clear HO; have HO := HOn; clear HOn)
                                | (with_reducible refine own_at_load 27 ?_; first | refine ol_1 HO rfl _ _ rfl (by repeat first | apply Has.head | apply Has.tail) rfl ?_ | refine op_1 HO rfl _ _ _ _ rfl (by repeat first | apply Has.head | apply Has.tail) (by repeat first | apply Part.done | apply Part.take | apply Part.skip) ?_)
                                | (with_reducible refine own_at_store 27 ?_; refine os_1 HO _ rfl rfl _ _ rfl (by repeat first | apply Sto.head | apply Sto.tail | apply Patch.put | apply Patch.skip | apply Patch.done) rfl ?_; intro WB HOn; clear HO; have HO := HOn; clear HOn)
                                | (with_reducible refine own_at_box 29 ?_; refine ob_2 HO _ rfl ?_; intro nB WB HOn; (try simp only [List.cons_append, List.nil_append] at HOn); clear HO; have HO := HOn; clear HOn)
                                | (with_reducible refine own_at_alloc 29 ?_; refine oa_2 HO ?_; intro nB WB HOn; (try simp only [List.cons_append, List.nil_append] at HOn); clear HO; have HO := HOn; clear HOn)
                                | (with_reducible refine own_at_load 29 ?_; first | refine ol_2 HO rfl _ _ rfl (by repeat first | apply Has.head | apply Has.tail) rfl ?_ | refine op_2 HO rfl _ _ _ _ rfl (by repeat first | apply Has.head | apply Has.tail) (by repeat first | apply Part.done | apply Part.take | apply Part.skip) ?_)
                                | (with_reducible refine own_at_store 29 ?_; refine os_2 HO _ rfl rfl _ _ rfl (by repeat first | apply Sto.head | apply Sto.tail | apply Patch.put | apply Patch.skip | apply Patch.done) rfl ?_; intro WB HOn; clear HO; have HO := HOn; clear HOn)
                                | (with_reducible refine own_at_box 4 ?_; refine sb_0 HO (.bool _) rfl rfl ?_; intro nB WB HOn; (try simp only [List.cons_append, List.nil_append] at HOn); clear HO; have HO := HOn; clear HOn)
                                | (with_reducible refine own_at_alloc 4 ?_; refine sa_0 HO ?_; intro nB WB HOn; (try simp only [List.cons_append, List.nil_append] at HOn); clear HO; have HO := HOn; clear HOn)
                                | (with_reducible refine own_at_load 4 ?_; refine sl_0 HO rfl _ _ _ _ rfl (by repeat first | apply Has.head | apply Has.tail) rfl ?_)
                                | (with_reducible refine own_at_store 4 ?_; refine st_0 HO (.bool _) rfl rfl _ _ rfl (by repeat first | apply Sto.head | apply Sto.tail | apply Patch.put | apply Patch.skip | apply Patch.done) rfl ?_; intro WB HOn; clear HO; have HO := HOn; clear HOn)
                                | (with_reducible refine own_at_box 3 ?_; refine sb_1 HO (.int .i64 _) rfl rfl ?_; intro nB WB HOn; (try simp only [List.cons_append, List.nil_append] at HOn); clear HO; have HO := HOn; clear HOn)
                                | (with_reducible refine own_at_alloc 3 ?_; refine sa_1 HO ?_; intro nB WB HOn; (try simp only [List.cons_append, List.nil_append] at HOn); clear HO; have HO := HOn; clear HOn)
                                | (with_reducible refine own_at_load 3 ?_; refine sl_1 HO rfl _ _ _ _ rfl (by repeat first | apply Has.head | apply Has.tail) rfl ?_)
                                | (with_reducible refine own_at_store 3 ?_; refine st_1 HO (.int .i64 _) rfl rfl _ _ rfl (by repeat first | apply Sto.head | apply Sto.tail | apply Patch.put | apply Patch.skip | apply Patch.done) rfl ?_; intro WB HOn; clear HO; have HO := HOn; clear HOn)
                                | (with_reducible refine own_at_box 30 ?_; refine sb_2 HO (.slice _ _ _) rfl rfl ?_; intro nB WB HOn; (try simp only [List.cons_append, List.nil_append] at HOn); clear HO; have HO := HOn; clear HOn)
                                | (with_reducible refine own_at_alloc 30 ?_; refine sa_2 HO ?_; intro nB WB HOn; (try simp only [List.cons_append, List.nil_append] at HOn); clear HO; have HO := HOn; clear HOn)
                                | (with_reducible refine own_at_load 30 ?_; refine sl_2 HO rfl _ _ _ _ rfl (by repeat first | apply Has.head | apply Has.tail) rfl ?_)
                                | (with_reducible refine own_at_store 30 ?_; refine st_2 HO (.slice _ _ _) rfl rfl _ _ rfl (by repeat first | apply Sto.head | apply Sto.tail | apply Patch.put | apply Patch.skip | apply Patch.done) rfl ?_; intro WB HOn; clear HO; have HO := HOn; clear HOn)
                                | (go_at_call 14; refine (frozen_f _ _ _ _ _ _ _ _ _ _ _ _ _ _ _ _ _ _ _ _ _ _).mono ?_; rintro e wc ⟨rfl, hb⟩; have HOn := HO.below hb; clear HO hb; have HO := HOn; clear HOn))
                          go_roundw
                          case rel =>
                            have e1 : k - a' - 1 = k - (a' + 1) := by omega
                            rw [e1] at HO
                            exact ⟨a' + 1, c' - 1, b', o' + 6, tailA c' b' o', false, true, by go_num, by omega, by omega, Or.inl ⟨rfl, rfl⟩, Lib.hid (by rw [List.length_drop, HN.out]), Lib.hid (by have := HC.out; omega), Lib.hid (fun h => by have := HC.out; unfold tailA; rw [if_neg (by omega)]), Lib.hid (HO.takeL 1)⟩
                          case measure => simp [intOf] <;> omega
                    · have HP : Hid (pressB x0 = false) := Lib.hid (by unfold pressB; simp [h1])
                      go_upto_region 19 with (first
                    | (with_reducible refine own_at_box 32 ?_; refine ob_0 HO _ rfl ?_; intro nB WB HOn; (try simp only [List.cons_append, List.nil_append] at HOn); clear HO; have HO := HOn; clear HOn)
                    | (with_reducible refine own_at_alloc 32 ?_; refine oa_0 HO ?_; intro nB WB HOn; (try simp only [List.cons_append, List.nil_append] at HOn); clear HO; have HO := HOn; clear HOn)
                    | (with_reducible refine own_at_load 32 ?_; first | refine ol_0 HO rfl _ _ rfl (by repeat first | apply Has.head | apply Has.tail) rfl ?_ | refine op_0 HO rfl _ _ _ _ rfl (by repeat first | apply Has.head | apply Has.tail) (by repeat first | apply Part.done | apply Part.take | apply Part.skip) ?_)
                    | (with_reducible refine own_at_store 32 ?_; refine os_0 HO _ rfl rfl _ _ rfl (by repeat first | apply Sto.head | apply Sto.tail | apply Patch.put | apply Patch.skip | apply Patch.done) rfl ?_; intro WB HOn; clear HO; have HO := HOn; clear HOn)
                    | (with_reducible refine own_at_box 27 ?_; refine ob_1 HO _ rfl ?_; intro nB WB HOn; (try simp only [List.cons_append, List.nil_append] at HOn); clear HO; have HO := HOn; clear HOn)
                    | (with_reducible refine own_at_alloc 27 ?_; refine oa_1 HO ?_; intro nB WB HOn; (try simp only [List.cons_append, List.nil_append] at HOn); clear HO; have HO := HOn; clear HOn)
                    | (with_reducible refine own_at_load 27 ?_; first | refine ol_1 HO rfl _ _ rfl (by repeat first | apply Has.head | apply Has.tail) rfl ?_ | refine op_1 HO rfl _ _ _ _ rfl (by repeat first | apply Has.head | apply Has.tail) (by repeat first | apply Part.done | apply Part.take | apply Part.skip) ?_)
                    | (with_reducible refine own_at_store 27 ?_; refine os_1 HO _ rfl rfl _ _ rfl (by repeat first | apply Sto.head | apply Sto.tail | apply Patch.put | apply Patch.skip | apply Patch.done) rfl ?_; intro WB HOn; clear HO; have HO := HOn; clear HOn)
                    | (with_reducible refine own_at_box 29 ?_; refine ob_2 HO _ rfl ?_; intro nB WB HOn; (try simp only [List.cons_append, List.nil_append] at HOn); clear HO; have HO := HOn; clear HOn)
                    | (with_reducible refine own_at_alloc 29 ?_; refine oa_2 HO ?_; intro nB WB HOn; (try simp only [List.cons_append, List.nil_append] at HOn); clear HO; have HO := HOn; clear HOn)
                    | (with_reducible refine own_at_load 29 ?_; first | refine ol_2 HO rfl _ _ rfl (by repeat first | apply Has.head | apply Has.tail) rfl ?_ | refine op_2 HO rfl _ _ _ _ rfl (by repeat first | apply Has.head | apply Has.tail) (by repeat first | apply Part.done | apply Part.take | apply Part.skip) ?_)
                    | (with_reducible refine own_at_store 29 ?_; refine os_2 HO _ rfl rfl _ _ rfl (by repeat first | apply Sto.head | apply Sto.tail | apply Patch.put | apply Patch.skip | apply Patch.done) rfl ?_; intro WB HOn; clear HO; have HO := HOn; clear HOn)
                    | (with_reducible refine own_at_box 4 ?_; refine sb_0 HO (.bool _) rfl rfl ?_; intro nB WB HOn; (try simp only [List.cons_append, List.nil_append] at HOn); clear HO; have HO := HOn; clear HOn)
                    | (with_reducible refine own_at_alloc 4 ?_; refine sa_0 HO ?_; intro nB WB HOn; (try simp only [List.cons_append, List.nil_append] at HOn); clear HO; have HO := HOn; clear HOn)
                    | (with_reducible refine own_at_load 4 ?_; refine sl_0 HO rfl _ _ _ _ rfl (by repeat first | apply Has.head | apply Has.tail) rfl ?_)
                    | (with_reducible refine own_at_store 4 ?_; refine st_0 HO (.bool _) rfl rfl _ _ rfl (by repeat first | apply Sto.head | apply Sto.tail | apply Patch.put | apply Patch.skip | apply Patch.done) rfl ?_; intro WB HOn; clear HO; have HO := HOn; clear HOn)
                    | (with_reducible refine own_at_box 3 ?_; refine sb_1 HO (.int .i64 _) rfl rfl ?_; intro nB WB HOn; (try simp only [List.cons_append, List.nil_append] at HOn); clear HO; have HO := HOn; clear HOn)
                    | (with_reducible refine own_at_alloc 3 ?_; refine sa_1 HO ?_; intro nB WB HOn; (try simp only [List.cons_append, List.nil_append] at HOn); clear HO; have HO := HOn; clear HOn)
                    | (with_reducible refine own_at_load 3 ?_; refine sl_1 HO rfl _ _ _ _ rfl (by repeat first | apply Has.head | apply Has.tail) rfl ?_)
                    | (with_reducible refine own_at_store 3 ?_; refine st_1 HO (.int .i64 _) rfl rfl _ _ rfl (by repeat first | apply Sto.head | apply Sto.tail | apply Patch.put | apply Patch.skip | apply Patch.done) rfl ?_; intro WB HOn; clear HO; have HO := HOn; clear HOn)
                    | (with_reducible refine own_at_box 30 ?_; refine sb_2 HO (.slice _ _ _) rfl rfl ?_; intro nB WB HOn; (try simp only [List.cons_append, List.nil_append] at HOn); clear HO; have HO := HOn; clear HOn)
                    | (with_reducible refine own_at_alloc 30 ?_; refine sa_2 HO ?_; intro nB WB HOn; (try simp only [List.cons_append, List.nil_append] at HOn); clear HO; have HO := HOn; clear HOn)
                    | (with_reducible refine own_at_load 30 ?_; refine sl_2 HO rfl _ _ _ _ rfl (by repeat first | apply Has.head | apply Has.tail) rfl ?_)
                    | (with_reducible refine own_at_store 30 ?_; refine st_2 HO (.slice _ _ _) rfl rfl _ _ rfl (by repeat first | apply Sto.head | apply Sto.tail | apply Patch.put | apply Patch.skip | apply Patch.done) rfl ?_; intro WB HOn; clear HO; have HO := HOn; clear HOn)
                    | (go_at_call 18; refine (next_at _ _ _ _ _ _ _ _ _ _ _ _ _ _ _ _ _ (k - a') c' (ls.drop a') b' o' _ _ _ _ _ _ _ HW.out HC.out.1 HX2.out (fun hne => ⟨(HO.rng 0 _ _ _ rfl hne).1, (HO.rng 0 _ _ _ rfl hne).2.1⟩) (by omega) false true (tailA c' b' o') (by rw [HP.out]; rfl) (by rw [HP.out]; rfl) rfl).mono ?_; rintro e wc ⟨rfl, hb⟩; have HOn := (HO.below hb).dropHead inL_len (by decide) 1 (o' + 6) (ls.drop (a' + 1)) (by omega) (by rw [List.drop_drop]); clear HO hb; have HO := HOn; clear HOn))
                      have uc0 := (HO.blk 2 _ _ rfl).cell 0 rfl
                      have ye0 := HO.elemCell inL_len (by decide) 1 _ _ ls rfl HX.out 0 rfl
                      have uc1 := (HO.blk 2 _ _ rfl).cell 1 rfl
                      have ye1 := HO.elemCell inL_len (by decide) 1 _ _ ls rfl HX.out 1 rfl
                      have uc2 := (HO.blk 2 _ _ rfl).cell 2 rfl
                      have ye2 := HO.elemCell inL_len (by decide) 1 _ _ ls rfl HX.out 2 rfl
                      have uc3 := (HO.blk 2 _ _ rfl).cell 3 rfl
                      have ye3 := HO.elemCell inL_len (by decide) 1 _ _ ls rfl HX.out 3 rfl
                      have uc4 := (HO.blk 2 _ _ rfl).cell 4 rfl
                      have ye4 := HO.elemCell inL_len (by decide) 1 _ _ ls rfl HX.out 4 rfl
                      have uc5 := (HO.blk 2 _ _ rfl).cell 5 rfl
                      have ye5 := HO.elemCell inL_len (by decide) 1 _ _ ls rfl HX.out 5 rfl
                      dsimp only at ye0 ye1 ye2 ye3 ye4 ye5
                      rw [Nat.add_zero] at ye0
                      go_quiet (fail)
                      all_goals
                        clear uc0 uc1 uc2 uc3 uc4 uc5 ye0 ye1 ye2 ye3 ye4 ye5
                        have HOn := HO.drewN nq
                        clear HO
                        have HO := HOn
                        clear HOn
                        go_wp2_with (first
                              | (with_reducible refine own_at_box 32 ?_; refine ob_0 HO _ rfl ?_; intro nB WB HOn; (try simp only [List.cons_append, List.nil_append] at HOn); clear HO; have HO := HOn; clear HOn)
                              | (with_reducible refine own_at_alloc 32 ?_; refine oa_0 HO ?_; intro nB WB HOn; (try simp only [List.cons_append, List.nil_append] at HOn); clear HO; have HO := HOn; clear HOn)
                              | (with_reducible refine own_at_load 32 ?_; first | refine ol_0 HO rfl _ _ rfl (by repeat first | apply Has.head | apply Has.tail) rfl ?_ | refine op_0 HO rfl _ _ _ _ rfl (by repeat first | apply Has.head | apply Has.tail) (by repeat first | apply Part.done | apply Part.take | apply Part.skip) ?_)
                              | (with_reducible refine own_at_store 32 ?_; refine os_0 HO _ rfl rfl _ _ rfl (by repeat first | apply Sto.head | apply Sto.tail | apply Patch.put | apply Patch.skip | apply Patch.done) rfl ?_; intro WB HOn; clear HO; have HO := HOn; clear HOn)
                              | (with_reducible refine own_at_box 27 ?_; refine ob_1 HO _ rfl ?_; intro nB WB HOn; (try simp only [List.cons_append, List.nil_append] at HOn); clear HO; have HO := HOn; clear HOn)
                              | (with_reducible refine own_at_alloc 27 ?_; refine oa_1 HO ?_; intro nB WB HOn; (try simp only [List.cons_append, List.nil_append] at HOn); clear HO; have HO := HOn; clear HOn)
                              | (with_reducible refine own_at_load 27 ?_; first | refine ol_1 HO rfl _ _ rfl (by repeat first | apply Has.head | apply Has.tail) rfl ?_ | refine op_1 HO rfl _ _ _ _ rfl (by repeat first | apply Has.head | apply Has.tail) (by repeat first | apply Part.done | apply Part.take | apply Part.skip) ?_)
                              | (with_reducible refine own_at_store 27 ?_; refine os_1 HO _ rfl rfl _ _ rfl (by repeat first | apply Sto.head | apply Sto.tail | apply Patch.put | apply Patch.skip | apply Patch.done) rfl ?_; intro WB HOn; clear HO; have HO := HOn; clear HOn)
                              | (with_reducible refine own_at_box 29 ?_; refine ob_2 HO _ rfl ?_; intro nB WB HOn; (try simp only [List.cons_append, List.nil_append] at HOn); clear HO; have HO := HOn; clear HOn)
                              | (with_reducible refine own_at_alloc 29 ?_; refine oa_2 HO ?_; intro nB WB HOn; (try simp only [List.cons_append, List.nil_append] at HOn); clear HO; have HO := HOn; clear HOn)
                              | (with_reducible refine own_at_load 29 ?_; first | refine ol_2 HO rfl _ _ rfl (by repeat first | apply Has.head | apply Has.tail) rfl ?_ | refine op_2 HO rfl _ _ _ _ rfl (by repeat first | apply Has.head | apply Has.tail) (by repeat first | apply Part.done | apply Part.take | apply Part.skip) ?_)
                              | (with_reducible refine own_at_store 29 ?_; refine os_2 HO _ rfl rfl _ _ rfl (by repeat first | apply Sto.head | apply Sto.tail | apply Patch.put | apply Patch.skip | apply Patch.done) rfl ?_; intro WB HOn; clear HO; have HO := HOn; clear HOn)
                              | (with_reducible refine own_at_box 4 ?_; refine sb_0 HO (.bool _) rfl rfl ?_; intro nB WB HOn; (try simp only [List.cons_append, List.nil_append] at HOn); clear HO; have HO := HOn; clear HOn)
                              | (with_reducible refine own_at_alloc 4 ?_; refine sa_0 HO ?_; intro nB WB HOn; (try simp only [List.cons_append, List.nil_append] at HOn); clear HO; have HO := HOn; clear HOn)
                              | (with_reducible refine own_at_load 4 ?_; refine sl_0 HO rfl _ _ _ _ rfl (by repeat first | apply Has.head | apply Has.tail) rfl ?_)
                              | (with_reducible refine own_at_store 4 ?_; refine st_0 HO (.bool _) rfl rfl _ _ rfl (by repeat first | apply Sto.head | apply Sto.tail | apply Patch.put | apply Patch.skip | apply Patch.done) rfl ?_; intro WB HOn; clear HO; have HO := HOn; clear HOn)
                              | (with_reducible refine own_at_box 3 ?_; refine sb_1 HO (.int .i64 _) rfl rfl ?_; intro nB WB HOn; (try simp only [List.cons_append, List.nil_append] at HOn); clear HO; have HO := HOn; clear HOn)
                              | (with_reducible refine own_at_alloc 3 ?_; refine sa_1 HO ?_; intro nB WB HOn; (try simp only [List.cons_append, List.nil_append] at HOn); clear HO; have HO := HOn; clear HOn)
                              | (with_reducible refine own_at_load 3 ?_; refine sl_1 HO rfl _ _ _ _ rfl (by repeat first | apply Has.head | apply Has.tail) rfl ?_)
                              | (with_reducible refine own_at_store 3 ?_; refine st_1 HO (.int .i64 _) rfl rfl _ _ rfl (by repeat first | apply Sto.head | apply Sto.tail | apply Patch.put | apply Patch.skip | apply Patch.done) rfl ?_; intro WB HOn; clear HO; have HO := HOn; clear HOn)
                              | (with_reducible refine own_at_box 30 ?_; refine sb_2 HO (.slice _ _ _) rfl rfl ?_; intro nB WB HOn; (try simp only [List.cons_append, List.nil_append] at HOn); clear HO; have HO := HOn; clear HOn)
                              | (with_reducible refine own_at_alloc 30 ?_; refine sa_2 HO ?_; intro nB WB HOn; (try simp only [List.cons_append, List.nil_append] at HOn); clear HO; have HO := HOn; clear HOn)
                              | (with_reducible refine own_at_load 30 ?_; refine sl_2 HO rfl _ _ _ _ rfl (by repeat first | apply Has.head | apply Has.tail) rfl ?_)
                              | (with_reducible refine own_at_store 30 ?_; refine st_2 HO (.slice _ _ _) rfl rfl _ _ rfl (by repeat first | apply Sto.head | apply Sto.tail | apply Patch.put | apply Patch.skip | apply Patch.done) rfl ?_; intro WB HOn; clear HO; have HO := HOn; clear HOn)
                              | (go_at_call 14; refine (frozen_f _ _ _ _ _ _ _ _ _ _ _ _ _ _ _ _ _ _ _ _ _ _).mono ?_; rintro e wc ⟨rfl, hb⟩; have HOn := HO.below hb; clear HO hb; have HO := HOn; clear HOn))
                        go_roundw
                        case rel =>
                          have e1 : k - a' - 1 = k - (a' + 1) := by omega
                          rw [e1] at HO
                          exact ⟨a' + 1, c' - 1, b', o' + 6, tailA c' b' o', false, true, by go_num, by omega, by omega, Or.inl ⟨rfl, rfl⟩, Lib.hid (by rw [List.length_drop, HN.out]), Lib.hid (by have := HC.out; omega), Lib.hid (fun h => by have := HC.out; unfold tailA; rw [if_neg (by omega)]), Lib.hid (HO.takeL 1)⟩
                        case measure => simp [intOf] <;> omega
                  · have hak2 : a' = k := by omega
                    rw [show k - a' = 0 by omega] at HO
                    have HAK := Lib.hid hak2
                    clear hak2
                    go_wp2_with (first
                          | (with_reducible refine own_at_box 32 ?_; refine ob_0 HO _ rfl ?_; intro nB WB HOn; (try simp only [List.cons_append, List.nil_append] at HOn); clear HO; have HO := HOn; clear HOn)
                          | (with_reducible refine own_at_alloc 32 ?_; refine oa_0 HO ?_; intro nB WB HOn; (try simp only [List.cons_append, List.nil_append] at HOn); clear HO; have HO := HOn; clear HOn)
                          | (with_reducible refine own_at_load 32 ?_; first | refine ol_0 HO rfl _ _ rfl (by repeat first | apply Has.head | apply Has.tail) rfl ?_ | refine op_0 HO rfl _ _ _ _ rfl (by repeat first | apply Has.head | apply Has.tail) (by repeat first | apply Part.done | apply Part.take | apply Part.skip) ?_)
                          | (with_reducible refine own_at_store 32 ?_; refine os_0 HO _ rfl rfl _ _ rfl (by repeat first | apply Sto.head | apply Sto.tail | apply Patch.put | apply Patch.skip | apply Patch.done) rfl ?_; intro WB HOn; clear HO; have HO := HOn; clear HOn)
                          | (with_reducible refine own_at_box 27 ?_; refine ob_1 HO _ rfl ?_; intro nB WB HOn; (try simp only [List.cons_append, List.nil_append] at HOn); clear HO; have HO := HOn; clear HOn)
                          | (with_reducible refine own_at_alloc 27 ?_; refine oa_1 HO ?_; intro nB WB HOn; (try simp only [List.cons_append, List.nil_append] at HOn); clear HO; have HO := HOn; clear HOn)
                          | (with_reducible refine own_at_load 27 ?_; first | refine ol_1 HO rfl _ _ rfl (by repeat first | apply Has.head | apply Has.tail) rfl ?_ | refine op_1 HO rfl _ _ _ _ rfl (by repeat first | apply Has.head | apply Has.tail) (by repeat first | apply Part.done | apply Part.take | apply Part.skip) ?_)
                          | (with_reducible refine own_at_store 27 ?_; refine os_1 HO _ rfl rfl _ _ rfl (by repeat first | apply Sto.head | apply Sto.tail | apply Patch.put | apply Patch.skip | apply Patch.done) rfl ?_; intro WB HOn; clear HO; have HO := HOn; clear HOn)
                          | (with_reducible refine own_at_box 29 ?_; refine ob_2 HO _ rfl ?_; intro nB WB HOn; (try simp only [List.cons_append, List.nil_append] at HOn); clear HO; have HO := HOn; clear HOn)
                          | (with_reducible refine own_at_alloc 29 ?_; refine oa_2 HO ?_; intro nB WB HOn; (try simp only [List.cons_append, List.nil_append] at HOn); clear HO; have HO := HOn; clear HOn)
                          | (with_reducible refine own_at_load 29 ?_; first | refine ol_2 HO rfl _ _ rfl (by repeat first | apply Has.head | apply Has.tail) rfl ?_ | refine op_2 HO rfl _ _ _ _ rfl (by repeat first | apply Has.head | apply Has.tail) (by repeat first | apply Part.done | apply Part.take | apply Part.skip) ?_)
                          | (with_reducible refine own_at_store 29 ?_; refine os_2 HO _ rfl rfl _ _ rfl (by repeat first | apply Sto.head | apply Sto.tail | apply Patch.put | apply Patch.skip | apply Patch.done) rfl ?_; intro WB HOn; clear HO; have HO := HOn; clear HOn)
                          | (with_reducible refine own_at_box 4 ?_; refine sb_0 HO (.bool _) rfl rfl ?_; intro nB WB HOn; (try simp only [List.cons_append, List.nil_append] at HOn); clear HO; have HO := HOn; clear HOn)
                          | (with_reducible refine own_at_alloc 4 ?_; refine sa_0 HO ?_; intro nB WB HOn; (try simp only [List.cons_append, List.nil_append] at HOn); clear HO; have HO := HOn; clear HOn)
                          | (with_reducible refine own_at_load 4 ?_; refine sl_0 HO rfl _ _ _ _ rfl (by repeat first | apply Has.head | apply Has.tail) rfl ?_)
                          | (with_reducible refine own_at_store 4 ?_; refine st_0 HO (.bool _) rfl rfl _ _ rfl (by repeat first | apply Sto.head | apply Sto.tail | apply Patch.put | apply Patch.skip | apply Patch.done) rfl ?_; intro WB HOn; clear HO; have HO := HOn; clear HOn)
                          | (with_reducible refine own_at_box 3 ?_; refine sb_1 HO (.int .i64 _) rfl rfl ?_; intro nB WB HOn; (try simp only [List.cons_append, List.nil_append] at HOn); clear HO; have HO := HOn; clear HOn)
                          | (with_reducible refine own_at_alloc 3 ?_; refine sa_1 HO ?_; intro nB WB HOn; (try simp only [List.cons_append, List.nil_append] at HOn); clear HO; have HO := HOn; clear HOn)
                          | (with_reducible refine own_at_load 3 ?_; refine sl_1 HO rfl _ _ _ _ rfl (by repeat first | apply Has.head | apply Has.tail) rfl ?_)
                          | (with_reducible refine own_at_store 3 ?_; refine st_1 HO (.int .i64 _) rfl rfl _ _ rfl (by repeat first | apply Sto.head | apply Sto.tail | apply Patch.put | apply Patch.skip | apply Patch.done) rfl ?_; intro WB HOn; clear HO; have HO := HOn; clear HOn)
                          | (with_reducible refine own_at_box 30 ?_; refine sb_2 HO (.slice _ _ _) rfl rfl ?_; intro nB WB HOn; (try simp only [List.cons_append, List.nil_append] at HOn); clear HO; have HO := HOn; clear HOn)
                          | (with_reducible refine own_at_alloc 30 ?_; refine sa_2 HO ?_; intro nB WB HOn; (try simp only [List.cons_append, List.nil_append] at HOn); clear HO; have HO := HOn; clear HOn)
                          | (with_reducible refine own_at_load 30 ?_; refine sl_2 HO rfl _ _ _ _ rfl (by repeat first | apply Has.head | apply Has.tail) rfl ?_)
                          | (with_reducible refine own_at_store 30 ?_; refine st_2 HO (.slice _ _ _) rfl rfl _ _ rfl (by repeat first | apply Sto.head | apply Sto.tail | apply Patch.put | apply Patch.skip | apply Patch.done) rfl ?_; intro WB HOn; clear HO; have HO := HOn; clear HOn)
                          | (go_at_call 18; refine (next_none _ _ _ _ _ _ _ _ _ _ _ _ _ _ _ _ _ _ _ _).mono ?_; rintro e wc ⟨rfl, hb⟩; have HOn := HO.below hb; clear HO hb; have HO := HOn; clear HOn))
                    go_roundw
                    case rel =>
                      have e0 : (0 : Nat) = k - a' := by have := HAK.out; omega
                      rw [e0] at HO
                      have hak2 := HAK.out
                      exact ⟨q + 1, a', c', b', o', A', false, true, by go_num, rfl, by omega, by omega, by omega, by first | exact Or.inl ⟨rfl, rfl⟩ | exact Or.inr ⟨rfl, rfl, rfl⟩ | exact Or.inr ⟨rfl, rfl, by omega⟩, HW, HC, HA, Lib.hid (HO.takeL 1)⟩
                    case measure => simp [intOf] <;> omega
                · go_wp2_with (first
                        | (with_reducible refine own_at_box 32 ?_; refine ob_0 HO _ rfl ?_; intro nB WB HOn; (try simp only [List.cons_append, List.nil_append] at HOn); clear HO; have HO := HOn; clear HOn)
                        | (with_reducible refine own_at_alloc 32 ?_; refine oa_0 HO ?_; intro nB WB HOn; (try simp only [List.cons_append, List.nil_append] at HOn); clear HO; have HO := HOn; clear HOn)
                        | (with_reducible refine own_at_load 32 ?_; first | refine ol_0 HO rfl _ _ rfl (by repeat first | apply Has.head | apply Has.tail) rfl ?_ | refine op_0 HO rfl _ _ _ _ rfl (by repeat first | apply Has.head | apply Has.tail) (by repeat first | apply Part.done | apply Part.take | apply Part.skip) ?_)
                        | (with_reducible refine own_at_store 32 ?_; refine os_0 HO _ rfl rfl _ _ rfl (by repeat first | apply Sto.head | apply Sto.tail | apply Patch.put | apply Patch.skip | apply Patch.done) rfl ?_; intro WB HOn; clear HO; have HO := HOn; clear HOn)
                        | (with_reducible refine own_at_box 27 ?_; refine ob_1 HO _ rfl ?_; intro nB WB HOn; (try simp only [List.cons_append, List.nil_append] at HOn); clear HO; have HO := HOn; clear HOn)
                        | (with_reducible refine own_at_alloc 27 ?_; refine oa_1 HO ?_; intro nB WB HOn; (try simp only [List.cons_append, List.nil_append] at HOn); clear HO; have HO := HOn; clear HOn)
                        | (with_reducible refine own_at_load 27 ?_; first | refine ol_1 HO rfl _ _ rfl (by repeat first | apply Has.head | apply Has.tail) rfl ?_ | refine op_1 HO rfl _ _ _ _ rfl (by repeat first | apply Has.head | apply Has.tail) (by repeat first | apply Part.done | apply Part.take | apply Part.skip) ?_)
                        | (with_reducible refine own_at_store 27 ?_; refine os_1 HO _ rfl rfl _ _ rfl (by repeat first | apply Sto.head | apply Sto.tail | apply Patch.put | apply Patch.skip | apply Patch.done) rfl ?_; intro WB HOn; clear HO; have HO := HOn; clear HOn)
                        | (with_reducible refine own_at_box 29 ?_; refine ob_2 HO _ rfl ?_; intro nB WB HOn; (try simp only [List.cons_append, List.nil_append] at HOn); clear HO; have HO := HOn; clear HOn)
                        | (with_reducible refine own_at_alloc 29 ?_; refine oa_2 HO ?_; intro nB WB HOn; (try simp only [List.cons_append, List.nil_append] at HOn); clear HO; have HO := HOn; clear HOn)
                        | (with_reducible refine own_at_load 29 ?_; first | refine ol_2 HO rfl _ _ rfl (by repeat first | apply Has.head | apply Has.tail) rfl ?_ | refine op_2 HO rfl _ _ _ _ rfl (by repeat first | apply Has.head | apply Has.tail) (by repeat first | apply Part.done | apply Part.take | apply Part.skip) ?_)
                        | (with_reducible refine own_at_store 29 ?_; refine os_2 HO _ rfl rfl _ _ rfl (by repeat first | apply Sto.head | apply Sto.tail | apply Patch.put | apply Patch.skip | apply Patch.done) rfl ?_; intro WB HOn; clear HO; have HO := HOn; clear HOn)
                        | (with_reducible refine own_at_box 4 ?_; refine sb_0 HO (.bool _) rfl rfl ?_; intro nB WB HOn; (try simp only [List.cons_append, List.nil_append] at HOn); clear HO; have HO := HOn; clear HOn)
                        | (with_reducible refine own_at_alloc 4 ?_; refine sa_0 HO ?_; intro nB WB HOn; (try simp only [List.cons_append, List.nil_append] at HOn); clear HO; have HO := HOn; clear HOn)
                        | (with_reducible refine own_at_load 4 ?_; refine sl_0 HO rfl _ _ _ _ rfl (by repeat first | apply Has.head | apply Has.tail) rfl ?_)
                        | (with_reducible refine own_at_store 4 ?_; refine st_0 HO (.bool _) rfl rfl _ _ rfl (by repeat first | apply Sto.head | apply Sto.tail | apply Patch.put | apply Patch.skip | apply Patch.done) rfl ?_; intro WB HOn; clear HO; have HO := HOn; clear HOn)
                        | (with_reducible refine own_at_box 3 ?_; refine sb_1 HO (.int .i64 _) rfl rfl ?_; intro nB WB HOn; (try simp only [List.cons_append, List.nil_append] at HOn); clear HO; have HO := HOn; clear HOn)
                        | (with_reducible refine own_at_alloc 3 ?_; refine sa_1 HO ?_; intro nB WB HOn; (try simp only [List.cons_append, List.nil_append] at HOn); clear HO; have HO := HOn; clear HOn)
                        | (with_reducible refine own_at_load 3 ?_; refine sl_1 HO rfl _ _ _ _ rfl (by repeat first | apply Has.head | apply Has.tail) rfl ?_)
                        | (with_reducible refine own_at_store 3 ?_; refine st_1 HO (.int .i64 _) rfl rfl _ _ rfl (by repeat first | apply Sto.head | apply Sto.tail | apply Patch.put | apply Patch.skip | apply Patch.done) rfl ?_; intro WB HOn; clear HO; have HO := HOn; clear HOn)
                        | (with_reducible refine own_at_box 30 ?_; refine sb_2 HO (.slice _ _ _) rfl rfl ?_; intro nB WB HOn; (try simp only [List.cons_append, List.nil_append] at HOn); clear HO; have HO := HOn; clear HOn)
                        | (with_reducible refine own_at_alloc 30 ?_; refine sa_2 HO ?_; intro nB WB HOn; (try simp only [List.cons_append, List.nil_append] at HOn); clear HO; have HO := HOn; clear HOn)
                        | (with_reducible refine own_at_load 30 ?_; refine sl_2 HO rfl _ _ _ _ rfl (by repeat first | apply Has.head | apply Has.tail) rfl ?_)
                        | (with_reducible refine own_at_store 30 ?_; refine st_2 HO (.slice _ _ _) rfl rfl _ _ rfl (by repeat first | apply Sto.head | apply Sto.tail | apply Patch.put | apply Patch.skip | apply Patch.done) rfl ?_; intro WB HOn; clear HO; have HO := HOn; clear HOn)
                        | (go_at_call 18; refine (next_frozen _ _ _ _ _ _ _ _ _ _ _ _ _ _ _ _ _ _ _ _ _).mono ?_; rintro e wc ⟨rfl, hb⟩; have HOn := HO.below hb; clear HO hb; have HO := HOn; clear HOn))
                  go_roundw
                  case rel => exact ⟨q + 1, a', c', b', o', A', true, false, by go_num, rfl, by omega, by omega, by omega, by first | exact Or.inl ⟨rfl, rfl⟩ | exact Or.inr ⟨rfl, rfl, rfl⟩ | exact Or.inr ⟨rfl, rfl, by omega⟩, HW, HC, HA, Lib.hid (HO.takeL 1)⟩
                  case measure => simp [intOf] <;> omega
          · have hqi : ¬ (q : Int) < (k : Int) + (r : Int) := by omega
            have hak2 : a = k := by omega
            rw [show k - a = 0 by omega] at HO
            have HAK := Lib.hid hak2
            have hki3 : ((a : Int) == (k : Int)) = true := by simp [hak2]
            clear hak2
            have hak2 := HAK.out
            have HL0 : Hid ((ls.drop a).length = 0) := Lib.hid (by rw [HW.out]; omega)
            have HC0 : Hid (0 ≤ c ∧ c ≤ maxLen) := Lib.hid (by have := HC.out; omega)
            clear hak2
            go_wp2_with (first
                  | (with_reducible refine own_at_box 32 ?_; refine ob_0 HO _ rfl ?_; intro nB WB HOn; (try simp only [List.cons_append, List.nil_append] at HOn); clear HO; have HO := HOn; clear HOn)
                  | (with_reducible refine own_at_alloc 32 ?_; refine oa_0 HO ?_; intro nB WB HOn; (try simp only [List.cons_append, List.nil_append] at HOn); clear HO; have HO := HOn; clear HOn)
                  | (with_reducible refine own_at_load 32 ?_; first | refine ol_0 HO rfl _ _ rfl (by repeat first | apply Has.head | apply Has.tail) rfl ?_ | refine op_0 HO rfl _ _ _ _ rfl (by repeat first | apply Has.head | apply Has.tail) (by repeat first | apply Part.done | apply Part.take | apply Part.skip) ?_)
                  | (with_reducible refine own_at_store 32 ?_; refine os_0 HO _ rfl rfl _ _ rfl (by repeat first | apply Sto.head | apply Sto.tail | apply Patch.put | apply Patch.skip | apply Patch.done) rfl ?_; intro WB HOn; clear HO; have HO := HOn; clear HOn)
                  | (with_reducible refine own_at_box 27 ?_; refine ob_1 HO _ rfl ?_; intro nB WB HOn; (try simp only [List.cons_append, List.nil_append] at HOn); clear HO; have HO := HOn; clear HOn)
                  | (with_reducible refine own_at_alloc 27 ?_; refine oa_1 HO ?_; intro nB WB HOn; (try simp only [List.cons_append, List.nil_append] at HOn); clear HO; have HO := HOn; clear HOn)
                  | (with_reducible refine own_at_load 27 ?_; first | refine ol_1 HO rfl _ _ rfl (by repeat first | apply Has.head | apply Has.tail) rfl ?_ | refine op_1 HO rfl _ _ _ _ rfl (by repeat first | apply Has.head | apply Has.tail) (by repeat first | apply Part.done | apply Part.take | apply Part.skip) ?_)
                  | (with_reducible refine own_at_store 27 ?_; refine os_1 HO _ rfl rfl _ _ rfl (by repeat first | apply Sto.head | apply Sto.tail | apply Patch.put | apply Patch.skip | apply Patch.done) rfl ?_; intro WB HOn; clear HO; have HO := HOn; clear HOn)
                  | (with_reducible refine own_at_box 29 ?_; refine ob_2 HO _ rfl ?_; intro nB WB HOn; (try simp only [List.cons_append, List.nil_append] at HOn); clear HO; have HO := HOn; clear HOn)
                  | (with_reducible refine own_at_alloc 29 ?_; refine oa_2 HO ?_; intro nB WB HOn; (try simp only [List.cons_append, List.nil_append] at HOn); clear HO; have HO := HOn; clear HOn)
                  | (with_reducible refine own_at_load 29 ?_; first | refine ol_2 HO rfl _ _ rfl (by repeat first | apply Has.head | apply Has.tail) rfl ?_ | refine op_2 HO rfl _ _ _ _ rfl (by repeat first | apply Has.head | apply Has.tail) (by repeat first | apply Part.done | apply Part.take | apply Part.skip) ?_)
                  | (with_reducible refine own_at_store 29 ?_; refine os_2 HO _ rfl rfl _ _ rfl (by repeat first | apply Sto.head | apply Sto.tail | apply Patch.put | apply Patch.skip | apply Patch.done) rfl ?_; intro WB HOn; clear HO; have HO := HOn; clear HOn)
                  | (with_reducible refine own_at_box 4 ?_; refine sb_0 HO (.bool _) rfl rfl ?_; intro nB WB HOn; (try simp only [List.cons_append, List.nil_append] at HOn); clear HO; have HO := HOn; clear HOn)
                  | (with_reducible refine own_at_alloc 4 ?_; refine sa_0 HO ?_; intro nB WB HOn; (try simp only [List.cons_append, List.nil_append] at HOn); clear HO; have HO := HOn; clear HOn)
                  | (with_reducible refine own_at_load 4 ?_; refine sl_0 HO rfl _ _ _ _ rfl (by repeat first | apply Has.head | apply Has.tail) rfl ?_)
                  | (with_reducible refine own_at_store 4 ?_; refine st_0 HO (.bool _) rfl rfl _ _ rfl (by repeat first | apply Sto.head | apply Sto.tail | apply Patch.put | apply Patch.skip | apply Patch.done) rfl ?_; intro WB HOn; clear HO; have HO := HOn; clear HOn)
                  | (with_reducible refine own_at_box 3 ?_; refine sb_1 HO (.int .i64 _) rfl rfl ?_; intro nB WB HOn; (try simp only [List.cons_append, List.nil_append] at HOn); clear HO; have HO := HOn; clear HOn)
                  | (with_reducible refine own_at_alloc 3 ?_; refine sa_1 HO ?_; intro nB WB HOn; (try simp only [List.cons_append, List.nil_append] at HOn); clear HO; have HO := HOn; clear HOn)
                  | (with_reducible refine own_at_load 3 ?_; refine sl_1 HO rfl _ _ _ _ rfl (by repeat first | apply Has.head | apply Has.tail) rfl ?_)
                  | (with_reducible refine own_at_store 3 ?_; refine st_1 HO (.int .i64 _) rfl rfl _ _ rfl (by repeat first | apply Sto.head | apply Sto.tail | apply Patch.put | apply Patch.skip | apply Patch.done) rfl ?_; intro WB HOn; clear HO; have HO := HOn; clear HOn)
                  | (with_reducible refine own_at_box 30 ?_; refine sb_2 HO (.slice _ _ _) rfl rfl ?_; intro nB WB HOn; (try simp only [List.cons_append, List.nil_append] at HOn); clear HO; have HO := HOn; clear HOn)
                  | (with_reducible refine own_at_alloc 30 ?_; refine sa_2 HO ?_; intro nB WB HOn; (try simp only [List.cons_append, List.nil_append] at HOn); clear HO; have HO := HOn; clear HOn)
                  | (with_reducible refine own_at_load 30 ?_; refine sl_2 HO rfl _ _ _ _ rfl (by repeat first | apply Has.head | apply Has.tail) rfl ?_)
                  | (with_reducible refine own_at_store 30 ?_; refine st_2 HO (.slice _ _ _) rfl rfl _ _ rfl (by repeat first | apply Sto.head | apply Sto.tail | apply Patch.put | apply Patch.skip | apply Patch.done) rfl ?_; intro WB HOn; clear HO; have HO := HOn; clear HOn)
                  | (go_at_call 19; refine (waiting_at _ _ _ _ _ _ _ _ _ _ _ _ _ _ _ _ _ _ A 0 c (ls.drop a) b o _ HL0.out HC0.out.1 HC0.out.2 (fun h => by omega) (fun hne => ⟨(HO.rng 0 _ _ _ rfl hne).1, (HO.rng 0 _ _ _ rfl hne).2.1⟩) (by omega)).mono ?_; rintro e wc ⟨v9, rfl, ho9, hb⟩; obtain ⟨A9, c9, rfl⟩ := row_sl ho9; clear ho9; have HOn := HO.below hb; clear HO hb; have HO := HOn; clear HOn)
                  | (go_at_call 8; refine (awake39 _).mono ?_; rintro e wc ⟨rfl, hb⟩; have HOn := HO.below hb; clear HO hb; have HO := HOn; clear HOn))
            go_returns
            exact ⟨by first | rfl | (simp; done), HO.q⟩
end Go.Proofs.Ytgcedookbblibaa
