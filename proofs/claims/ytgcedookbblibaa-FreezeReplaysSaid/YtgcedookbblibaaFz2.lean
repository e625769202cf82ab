/- Layer 39: what a device tells, one by one. -/
import Derived.Test.YtgcedookbblibaaFz1
namespace Go.Proofs.Ytgcedookbblibaa
open Go Go.RowKit
set_option linter.unusedSimpArgs false
set_option linter.unusedVariables false
set_option maxRecDepth 100000 in
set_option maxHeartbeats 16000000 in
theorem free_f (d0 d1 : Int) (d2 : Bool) (d3 : Int) (d4 d5 : Bool) (d6 d7 : Int) (d8 d9 d10 : Bool) (d11 d12 d13 d14 d15 d16 : Int) (d17 : Bool) (a : Option Addr) (l c : Nat) (w : World) :
    Calls Try.prog 24 #[.agg #[i6 d0, uw d1, .bool d2, i6 d3, .bool d4, .bool d5, i6 d6, uw d7, .bool d8, .bool d9, .bool d10, i6 d11, i6 d12, i6 d13, i6 d14, uw d15, i6 d16, .bool d17, .slice a l c]] w fun e w' => e = .returned (.agg #[i6 d0, uw d1, .bool d2, i6 d3, .bool d4, .bool d5, i6 d6, uw d7, .bool d8, .bool false, .bool false, i6 0, i6 0, i6 0, i6 0, uw 0, i6 0, .bool false, .slice a l c]) ∧ Below w.heap.size w w' := by
  go_enter Try.func24, Try.ntmps24
  have HO := Own.nil w
  go_wp2_with (first
      | (with_reducible refine own_at_box 32 ?_; refine ob_0 HO _ rfl ?_; intro nB WB HOn; (try simp only [List.cons_append, List.nil_append] at HOn); clear HO; have HO := HOn; clear HOn)
      | (with_reducible refine own_at_alloc 32 ?_; refine oa_0 HO ?_; intro nB WB HOn; (try simp only [List.cons_append, List.nil_append] at HOn); clear HO; have HO := HOn; clear HOn)
      | (with_reducible refine own_at_load 32 ?_; first | refine ol_0 HO rfl _ _ rfl (by repeat first | apply Has.head | apply Has.tail) rfl ?_ | refine op_0 HO rfl _ _ _ _ rfl (by repeat first | apply Has.head | apply Has.tail) (by repeat first | apply Part.done | apply Part.take | apply Part.skip) ?_)
      | (with_reducible refine own_at_store 32 ?_; refine os_0 HO _ rfl rfl _ _ rfl (by repeat first | apply Sto.head | apply Sto.tail | apply Patch.put | apply Patch.skip | apply Patch.done) rfl ?_; intro WB HOn; clear HO; have HO := HOn; clear HOn)
      | (with_reducible refine own_at_box 27 ?_; refine ob_1 HO _ rfl ?_; intro nB WB HOn; (try simp only [List.cons_append, List.nil_append] at HOn); clear HO; have HO := HOn; clear HOn)
      | (with_reducible refine own_at_alloc 27 ?_; refine oa_1 HO ?_; intro nB WB HOn; (try simp only [List.cons_append, List.nil_append] at HOn); clear HO; have HO := HOn; clear HOn)
      | (with_reducible refine own_at_load 27 ?_; first | refine ol_1 HO rfl _ _ rfl (by repeat first | apply Has.head | apply Has.tail) rfl ?_ | refine op_1 HO rfl _ _ _ _ rfl (by repeat first | apply Has.head | apply Has.tail) (by repeat first | apply Part.done | apply Part.take | apply Part.skip) ?_)
      | (with_reducible refine own_at_store 27 ?_; refine os_1 HO _ rfl rfl _ _ rfl (by repeat first | apply Sto.head | apply Sto.tail | apply Patch.put | apply Patch.skip | apply Patch.done) rfl ?_; intro WB HOn; clear HO; have HO := HOn; clear HOn)
      | (with_reducible refine own_at_box 29 ?_; refine ob_2 HO _ rfl ?_; intro nB WB HOn; (try simp only [List.cons_append, List.nil_append] at HOn); clear HO; have HO := HOn; clear HOn)
      | (with_reducible refine own_at_alloc 29 ?_; refine oa_2 HO ?_; intro nB WB HOn; (try simp only [List.cons_append, List.nil_append] at HOn); clear HO; have HO := HOn; clear HOn)
      | (with_reducible refine own_at_load 29 ?_; first | refine ol_2 HO rfl _ _ rfl (by repeat first | apply Has.head | apply Has.tail) rfl ?_ | refine op_2 HO rfl _ _ _ _ rfl (by repeat first | apply Has.head | apply Has.tail) (by repeat first | apply Part.done | apply Part.take | apply Part.skip) ?_)
      | (with_reducible refine own_at_store 29 ?_; refine os_2 HO _ rfl rfl _ _ rfl (by repeat first | apply Sto.head | apply Sto.tail | apply Patch.put | apply Patch.skip | apply Patch.done) rfl ?_; intro WB HOn; clear HO; have HO := HOn; clear HOn)
      | (with_reducible refine own_at_box 4 ?_; refine sb_0 HO (.bool _) rfl rfl ?_; intro nB WB HOn; (try simp only [List.cons_append, List.nil_append] at HOn); clear HO; have HO := HOn; clear HOn)
      | (with_reducible refine own_at_alloc 4 ?_; refine sa_0 HO ?_; intro nB WB HOn; (try simp only [List.cons_append, List.nil_append] at HOn); clear HO; have HO := HOn; clear HOn)
      | (with_reducible refine own_at_load 4 ?_; refine sl_0 HO rfl _ _ _ _ rfl (by repeat first | apply Has.head | apply Has.tail) rfl ?_)
      | (with_reducible refine own_at_store 4 ?_; refine st_0 HO (.bool _) rfl rfl _ _ rfl (by repeat first | apply Sto.head | apply Sto.tail | apply Patch.put | apply Patch.skip | apply Patch.done) rfl ?_; intro WB HOn; clear HO; have HO := HOn; clear HOn)
      | (with_reducible refine own_at_box 3 ?_; refine sb_1 HO (.int .i64 _) rfl rfl ?_; intro nB WB HOn; (try simp only [List.cons_append, List.nil_append] at HOn); clear HO; have HO := HOn; clear HOn)
      | (with_reducible refine own_at_alloc 3 ?_; refine sa_1 HO ?_; intro nB WB HOn; (try simp only [List.cons_append, List.nil_append] at HOn); clear HO; have HO := HOn; clear HOn)
      | (with_reducible refine own_at_load 3 ?_; refine sl_1 HO rfl _ _ _ _ rfl (by repeat first | apply Has.head | apply Has.tail) rfl ?_)
      | (with_reducible refine own_at_store 3 ?_; refine st_1 HO (.int .i64 _) rfl rfl _ _ rfl (by repeat first | apply Sto.head | apply Sto.tail | apply Patch.put | apply Patch.skip | apply Patch.done) rfl ?_; intro WB HOn; clear HO; have HO := HOn; clear HOn)
      | (with_reducible refine own_at_box 30 ?_; refine sb_2 HO (.slice _ _ _) rfl rfl ?_; intro nB WB HOn; (try simp only [List.cons_append, List.nil_append] at HOn); clear HO; have HO := HOn; clear HOn)
      | (with_reducible refine own_at_alloc 30 ?_; refine sa_2 HO ?_; intro nB WB HOn; (try simp only [List.cons_append, List.nil_append] at HOn); clear HO; have HO := HOn; clear HOn)
      | (with_reducible refine own_at_load 30 ?_; refine sl_2 HO rfl _ _ _ _ rfl (by repeat first | apply Has.head | apply Has.tail) rfl ?_)
      | (with_reducible refine own_at_store 30 ?_; refine st_2 HO (.slice _ _ _) rfl rfl _ _ rfl (by repeat first | apply Sto.head | apply Sto.tail | apply Patch.put | apply Patch.skip | apply Patch.done) rfl ?_; intro WB HOn; clear HO; have HO := HOn; clear HOn))
  exact own_ret_c HO _ _ rfl 1 _ _ rfl rfl _ Try.underlying32 rfl oinfo_0 rfl ⟨rfl, HO.q⟩
set_option maxRecDepth 100000 in
set_option maxHeartbeats 16000000 in
theorem begin_f (d0 d1 : Int) (d2 : Bool) (d3 : Int) (d4 d5 : Bool) (d6 d7 : Int) (d8 d9 d10 : Bool) (d11 d12 d13 d14 d15 d16 : Int) (d17 : Bool) (a : Option Addr) (l c : Nat) (g0 g1 : Int) (g2 : Bool) (g3 : Int) (g4 g5 : Bool) (g6 g7 : Int) (fr : Bool) (w : World) :
    Calls Try.prog 15 #[.agg #[i6 d0, uw d1, .bool d2, i6 d3, .bool d4, .bool d5, i6 d6, uw d7, .bool d8, .bool d9, .bool d10, i6 d11, i6 d12, i6 d13, i6 d14, uw d15, i6 d16, .bool d17, .slice a l c], .agg #[i6 g0, uw g1, .bool g2, i6 g3, .bool g4, .bool g5, i6 g6, uw g7], .bool fr] w fun e w' => e = .returned (.agg #[i6 g0, uw g1, .bool g2, i6 g3, .bool g4, .bool g5, i6 g6, uw g7, .bool true, .bool fr, .bool false, i6 0, i6 0, i6 0, i6 0, uw 0, i6 0, .bool false, .slice a l c]) ∧ Below w.heap.size w w' := by
  go_enter Try.func15, Try.ntmps15
  have HO := Own.nil w
  go_wp2_with (first
      | (with_reducible refine own_at_box 32 ?_; refine ob_0 HO _ rfl ?_; intro nB WB HOn; (try simp only [List.cons_append, List.nil_append] at HOn); clear HO; have HO := HOn; clear HOn)
      | (with_reducible refine own_at_alloc 32 ?_; refine oa_0 HO ?_; intro nB WB HOn; (try simp only [List.cons_append, List.nil_append] at HOn); clear HO; have HO := HOn; clear HOn)
      | (with_reducible refine own_at_load 32 ?_; first | refine ol_0 HO rfl _ _ rfl (by repeat first | apply Has.head | apply Has.tail) rfl ?_ | refine op_0 HO rfl _ _ _ _ rfl (by repeat first | apply Has.head | apply Has.tail) (by repeat first | apply Part.done | apply Part.take | apply Part.skip) ?_)
      | (with_reducible refine own_at_store 32 ?_; refine os_0 HO _ rfl rfl _ _ rfl (by repeat first | apply Sto.head | apply Sto.tail | apply Patch.put | apply Patch.skip | apply Patch.done) rfl ?_; intro WB HOn; clear HO; have HO := HOn; clear HOn)
      | (with_reducible refine own_at_box 27 ?_; refine ob_1 HO _ rfl ?_; intro nB WB HOn; (try simp only [List.cons_append, List.nil_append] at HOn); clear HO; have HO := HOn; clear HOn)
      | (with_reducible refine own_at_alloc 27 ?_; refine oa_1 HO ?_; intro nB WB HOn; (try simp only [List.cons_append, List.nil_append] at HOn); clear HO; have HO := HOn; clear HOn)
      | (with_reducible refine own_at_load 27 ?_; first | refine ol_1 HO rfl _ _ rfl (by repeat first | apply Has.head | apply Has.tail) rfl ?_ | refine op_1 HO rfl _ _ _ _ rfl (by repeat first | apply Has.head | apply Has.tail) (by repeat first | apply Part.done | apply Part.take | apply Part.skip) ?_)
      | (with_reducible refine own_at_store 27 ?_; refine os_1 HO _ rfl rfl _ _ rfl (by repeat first | apply Sto.head | apply Sto.tail | apply Patch.put | apply Patch.skip | apply Patch.done) rfl ?_; intro WB HOn; clear HO; have HO := HOn; clear HOn)
      | (with_reducible refine own_at_box 29 ?_; refine ob_2 HO _ rfl ?_; intro nB WB HOn; (try simp only [List.cons_append, List.nil_append] at HOn); clear HO; have HO := HOn; clear HOn)
      | (with_reducible refine own_at_alloc 29 ?_; refine oa_2 HO ?_; intro nB WB HOn; (try simp only [List.cons_append, List.nil_append] at HOn); clear HO; have HO := HOn; clear HOn)
      | (with_reducible refine own_at_load 29 ?_; first | refine ol_2 HO rfl _ _ rfl (by repeat first | apply Has.head | apply Has.tail) rfl ?_ | refine op_2 HO rfl _ _ _ _ rfl (by repeat first | apply Has.head | apply Has.tail) (by repeat first | apply Part.done | apply Part.take | apply Part.skip) ?_)
      | (with_reducible refine own_at_store 29 ?_; refine os_2 HO _ rfl rfl _ _ rfl (by repeat first | apply Sto.head | apply Sto.tail | apply Patch.put | apply Patch.skip | apply Patch.done) rfl ?_; intro WB HOn; clear HO; have HO := HOn; clear HOn)
      | (with_reducible refine own_at_box 4 ?_; refine sb_0 HO (.bool _) rfl rfl ?_; intro nB WB HOn; (try simp only [List.cons_append, List.nil_append] at HOn); clear HO; have HO := HOn; clear HOn)
      | (with_reducible refine own_at_alloc 4 ?_; refine sa_0 HO ?_; intro nB WB HOn; (try simp only [List.cons_append, List.nil_append] at HOn); clear HO; have HO := HOn; clear HOn)
      | (with_reducible refine own_at_load 4 ?_; refine sl_0 HO rfl _ _ _ _ rfl (by repeat first | apply Has.head | apply Has.tail) rfl ?_)
      | (with_reducible refine own_at_store 4 ?_; refine st_0 HO (.bool _) rfl rfl _ _ rfl (by repeat first | apply Sto.head | apply Sto.tail | apply Patch.put | apply Patch.skip | apply Patch.done) rfl ?_; intro WB HOn; clear HO; have HO := HOn; clear HOn)
      | (with_reducible refine own_at_box 3 ?_; refine sb_1 HO (.int .i64 _) rfl rfl ?_; intro nB WB HOn; (try simp only [List.cons_append, List.nil_append] at HOn); clear HO; have HO := HOn; clear HOn)
      | (with_reducible refine own_at_alloc 3 ?_; refine sa_1 HO ?_; intro nB WB HOn; (try simp only [List.cons_append, List.nil_append] at HOn); clear HO; have HO := HOn; clear HOn)
      | (with_reducible refine own_at_load 3 ?_; refine sl_1 HO rfl _ _ _ _ rfl (by repeat first | apply Has.head | apply Has.tail) rfl ?_)
      | (with_reducible refine own_at_store 3 ?_; refine st_1 HO (.int .i64 _) rfl rfl _ _ rfl (by repeat first | apply Sto.head | apply Sto.tail | apply Patch.put | apply Patch.skip | apply Patch.done) rfl ?_; intro WB HOn; clear HO; have HO := HOn; clear HOn)
      | (with_reducible refine own_at_box 30 ?_; refine sb_2 HO (.slice _ _ _) rfl rfl ?_; intro nB WB HOn; (try simp only [List.cons_append, List.nil_append] at HOn); clear HO; have HO := HOn; clear HOn)
      | (with_reducible refine own_at_alloc 30 ?_; refine sa_2 HO ?_; intro nB WB HOn; (try simp only [List.cons_append, List.nil_append] at HOn); clear HO; have HO := HOn; clear HOn)
      | (with_reducible refine own_at_load 30 ?_; refine sl_2 HO rfl _ _ _ _ rfl (by repeat first | apply Has.head | apply Has.tail) rfl ?_)
      | (with_reducible refine own_at_store 30 ?_; refine st_2 HO (.slice _ _ _) rfl rfl _ _ rfl (by repeat first | apply Sto.head | apply Sto.tail | apply Patch.put | apply Patch.skip | apply Patch.done) rfl ?_; intro WB HOn; clear HO; have HO := HOn; clear HOn)
      | (go_at_call 24; refine (free_f _ _ _ _ _ _ _ _ _ _ _ _ _ _ _ _ _ _ _ _ _ _).mono ?_; rintro e wc ⟨rfl, hb⟩; have HOn := HO.below hb; clear HO hb; have HO := HOn; clear HOn))
  exact own_ret_c HO _ _ rfl 2 _ _ rfl rfl _ Try.underlying32 rfl oinfo_0 rfl ⟨rfl, HO.q⟩
set_option maxRecDepth 100000 in
set_option maxHeartbeats 16000000 in
theorem end_f (d0 d1 : Int) (d2 : Bool) (d3 : Int) (d4 d5 : Bool) (d6 d7 : Int) (d8 d9 d10 : Bool) (d11 d12 d13 d14 d15 d16 : Int) (d17 : Bool) (a : Option Addr) (l c : Nat) (w : World) :
    Calls Try.prog 10 #[.agg #[i6 d0, uw d1, .bool d2, i6 d3, .bool d4, .bool d5, i6 d6, uw d7, .bool d8, .bool d9, .bool d10, i6 d11, i6 d12, i6 d13, i6 d14, uw d15, i6 d16, .bool d17, .slice a l c]] w fun e w' => e = .returned (.agg #[i6 0, uw 0, .bool false, i6 0, .bool false, .bool false, i6 0, uw 0, .bool false, .bool false, .bool false, i6 0, i6 0, i6 0, i6 0, uw 0, i6 0, .bool false, .slice a l c]) ∧ Below w.heap.size w w' := by
  go_enter Try.func10, Try.ntmps10
  have HO := Own.nil w
  go_wp2_with (first
      | (with_reducible refine own_at_box 32 ?_; refine ob_0 HO _ rfl ?_; intro nB WB HOn; (try simp only [List.cons_append, List.nil_append] at HOn); clear HO; have HO := HOn; clear HOn)
      | (with_reducible refine own_at_alloc 32 ?_; refine oa_0 HO ?_; intro nB WB HOn; (try simp only [List.cons_append, List.nil_append] at HOn); clear HO; have HO := HOn; clear HOn)
      | (with_reducible refine own_at_load 32 ?_; first | refine ol_0 HO rfl _ _ rfl (by repeat first | apply Has.head | apply Has.tail) rfl ?_ | refine op_0 HO rfl _ _ _ _ rfl (by repeat first | apply Has.head | apply Has.tail) (by repeat first | apply Part.done | apply Part.take | apply Part.skip) ?_)
      | (with_reducible refine own_at_store 32 ?_; refine os_0 HO _ rfl rfl _ _ rfl (by repeat first | apply Sto.head | apply Sto.tail | apply Patch.put | apply Patch.skip | apply Patch.done) rfl ?_; intro WB HOn; clear HO; have HO := HOn; clear HOn)
      | (with_reducible refine own_at_box 27 ?_; refine ob_1 HO _ rfl ?_; intro nB WB HOn; (try simp only [List.cons_append, List.nil_append] at HOn); clear HO; have HO := HOn; clear HOn)
      | (with_reducible refine own_at_alloc 27 ?_; refine oa_1 HO ?_; intro nB WB HOn; (try simp only [List.cons_append, List.nil_append] at HOn); clear HO; have HO := HOn; clear HOn)
      | (with_reducible refine own_at_load 27 ?_; first | refine ol_1 HO rfl _ _ rfl (by repeat first | apply Has.head | apply Has.tail) rfl ?_ | refine op_1 HO rfl _ _ _ _ rfl (by repeat first | apply Has.head | apply Has.tail) (by repeat first | apply Part.done | apply Part.take | apply Part.skip) ?_)
      | (with_reducible refine own_at_store 27 ?_; refine os_1 HO _ rfl rfl _ _ rfl (by repeat first | apply Sto.head | apply Sto.tail | apply Patch.put | apply Patch.skip | apply Patch.done) rfl ?_; intro WB HOn; clear HO; have HO := HOn; clear HOn)
      | (with_reducible refine own_at_box 29 ?_; refine ob_2 HO _ rfl ?_; intro nB WB HOn; (try simp only [List.cons_append, List.nil_append] at HOn); clear HO; have HO := HOn; clear HOn)
      | (with_reducible refine own_at_alloc 29 ?_; refine oa_2 HO ?_; intro nB WB HOn; (try simp only [List.cons_append, List.nil_append] at HOn); clear HO; have HO := HOn; clear HOn)
      | (with_reducible refine own_at_load 29 ?_; first | refine ol_2 HO rfl _ _ rfl (by repeat first | apply Has.head | apply Has.tail) rfl ?_ | refine op_2 HO rfl _ _ _ _ rfl (by repeat first | apply Has.head | apply Has.tail) (by repeat first | apply Part.done | apply Part.take | apply Part.skip) ?_)
      | (with_reducible refine own_at_store 29 ?_; refine os_2 HO _ rfl rfl _ _ rfl (by repeat first | apply Sto.head | apply Sto.tail | apply Patch.put | apply Patch.skip | apply Patch.done) rfl ?_; intro WB HOn; clear HO; have HO := HOn; clear HOn)
      | (with_reducible refine own_at_box 4 ?_; refine sb_0 HO (.bool _) rfl rfl ?_; intro nB WB HOn; (try simp only [List.cons_append, List.nil_append] at HOn); clear HO; have HO := HOn; clear HOn)
      | (with_reducible refine own_at_alloc 4 ?_; refine sa_0 HO ?_; intro nB WB HOn; (try simp only [List.cons_append, List.nil_append] at HOn); clear HO; have HO := HOn; clear HOn)
      | (with_reducible refine own_at_load 4 ?_; refine sl_0 HO rfl _ _ _ _ rfl (by repeat first | apply Has.head | apply Has.tail) rfl ?_)
      | (with_reducible refine own_at_store 4 ?_; refine st_0 HO (.bool _) rfl rfl _ _ rfl (by repeat first | apply Sto.head | apply Sto.tail | apply Patch.put | apply Patch.skip | apply Patch.done) rfl ?_; intro WB HOn; clear HO; have HO := HOn; clear HOn)
      | (with_reducible refine own_at_box 3 ?_; refine sb_1 HO (.int .i64 _) rfl rfl ?_; intro nB WB HOn; (try simp only [List.cons_append, List.nil_append] at HOn); clear HO; have HO := HOn; clear HOn)
      | (with_reducible refine own_at_alloc 3 ?_; refine sa_1 HO ?_; intro nB WB HOn; (try simp only [List.cons_append, List.nil_append] at HOn); clear HO; have HO := HOn; clear HOn)
      | (with_reducible refine own_at_load 3 ?_; refine sl_1 HO rfl _ _ _ _ rfl (by repeat first | apply Has.head | apply Has.tail) rfl ?_)
      | (with_reducible refine own_at_store 3 ?_; refine st_1 HO (.int .i64 _) rfl rfl _ _ rfl (by repeat first | apply Sto.head | apply Sto.tail | apply Patch.put | apply Patch.skip | apply Patch.done) rfl ?_; intro WB HOn; clear HO; have HO := HOn; clear HOn)
      | (with_reducible refine own_at_box 30 ?_; refine sb_2 HO (.slice _ _ _) rfl rfl ?_; intro nB WB HOn; (try simp only [List.cons_append, List.nil_append] at HOn); clear HO; have HO := HOn; clear HOn)
      | (with_reducible refine own_at_alloc 30 ?_; refine sa_2 HO ?_; intro nB WB HOn; (try simp only [List.cons_append, List.nil_append] at HOn); clear HO; have HO := HOn; clear HOn)
      | (with_reducible refine own_at_load 30 ?_; refine sl_2 HO rfl _ _ _ _ rfl (by repeat first | apply Has.head | apply Has.tail) rfl ?_)
      | (with_reducible refine own_at_store 30 ?_; refine st_2 HO (.slice _ _ _) rfl rfl _ _ rfl (by repeat first | apply Sto.head | apply Sto.tail | apply Patch.put | apply Patch.skip | apply Patch.done) rfl ?_; intro WB HOn; clear HO; have HO := HOn; clear HOn)
      | (go_at_call 24; refine (free_f _ _ _ _ _ _ _ _ _ _ _ _ _ _ _ _ _ _ _ _ _ _).mono ?_; rintro e wc ⟨rfl, hb⟩; have HOn := HO.below hb; clear HO hb; have HO := HOn; clear HOn))
  exact own_ret_c HO _ _ rfl 1 _ _ rfl rfl _ Try.underlying32 rfl oinfo_0 rfl ⟨rfl, HO.q⟩
set_option maxRecDepth 100000 in
set_option maxHeartbeats 16000000 in
theorem hold_f (d0 d1 : Int) (d2 : Bool) (d3 : Int) (d4 d5 : Bool) (d6 d7 : Int) (d8 d9 d10 : Bool) (d11 d12 d13 d14 d15 d16 : Int) (d17 : Bool) (a : Option Addr) (l c : Nat) (i0 i1 i2 i3 i4 i5 : Int) (w : World) :
    Calls Try.prog 16 #[.agg #[i6 d0, uw d1, .bool d2, i6 d3, .bool d4, .bool d5, i6 d6, uw d7, .bool d8, .bool d9, .bool d10, i6 d11, i6 d12, i6 d13, i6 d14, uw d15, i6 d16, .bool d17, .slice a l c], .agg #[i6 i0, i6 i1, i6 i2, i6 i3, uw i4, i6 i5]] w fun e w' => e = .returned (.agg #[i6 d0, uw d1, .bool d2, i6 d3, .bool d4, .bool d5, i6 d6, uw d7, .bool d8, .bool d9, .bool d10, i6 i0, i6 i1, i6 i2, i6 i3, uw i4, i6 i5, .bool true, .slice a l c]) ∧ Below w.heap.size w w' := by
  go_enter Try.func16, Try.ntmps16
  have HO := Own.nil w
  go_wp2_with (first
      | (with_reducible refine own_at_box 32 ?_; refine ob_0 HO _ rfl ?_; intro nB WB HOn; (try simp only [List.cons_append, List.nil_append] at HOn); clear HO; have HO := HOn; clear HOn)
      | (with_reducible refine own_at_alloc 32 ?_; refine oa_0 HO ?_; intro nB WB HOn; (try simp only [List.cons_append, List.nil_append] at HOn); clear HO; have HO := HOn; clear HOn)
      | (with_reducible refine own_at_load 32 ?_; first | refine ol_0 HO rfl _ _ rfl (by repeat first | apply Has.head | apply Has.tail) rfl ?_ | refine op_0 HO rfl _ _ _ _ rfl (by repeat first | apply Has.head | apply Has.tail) (by repeat first | apply Part.done | apply Part.take | apply Part.skip) ?_)
      | (with_reducible refine own_at_store 32 ?_; refine os_0 HO _ rfl rfl _ _ rfl (by repeat first | apply Sto.head | apply Sto.tail | apply Patch.put | apply Patch.skip | apply Patch.done) rfl ?_; intro WB HOn; clear HO; have HO := HOn; clear HOn)
      | (with_reducible refine own_at_box 27 ?_; refine ob_1 HO _ rfl ?_; intro nB WB HOn; (try simp only [List.cons_append, List.nil_append] at HOn); clear HO; have HO := HOn; clear HOn)
      | (with_reducible refine own_at_alloc 27 ?_; refine oa_1 HO ?_; intro nB WB HOn; (try simp only [List.cons_append, List.nil_append] at HOn); clear HO; have HO := HOn; clear HOn)
      | (with_reducible refine own_at_load 27 ?_; first | refine ol_1 HO rfl _ _ rfl (by repeat first | apply Has.head | apply Has.tail) rfl ?_ | refine op_1 HO rfl _ _ _ _ rfl (by repeat first | apply Has.head | apply Has.tail) (by repeat first | apply Part.done | apply Part.take | apply Part.skip) ?_)
      | (with_reducible refine own_at_store 27 ?_; refine os_1 HO _ rfl rfl _ _ rfl (by repeat first | apply Sto.head | apply Sto.tail | apply Patch.put | apply Patch.skip | apply Patch.done) rfl ?_; intro WB HOn; clear HO; have HO := HOn; clear HOn)
      | (with_reducible refine own_at_box 29 ?_; refine ob_2 HO _ rfl ?_; intro nB WB HOn; (try simp only [List.cons_append, List.nil_append] at HOn); clear HO; have HO := HOn; clear HOn)
      | (with_reducible refine own_at_alloc 29 ?_; refine oa_2 HO ?_; intro nB WB HOn; (try simp only [List.cons_append, List.nil_append] at HOn); clear HO; have HO := HOn; clear HOn)
      | (with_reducible refine own_at_load 29 ?_; first | refine ol_2 HO rfl _ _ rfl (by repeat first | apply Has.head | apply Has.tail) rfl ?_ | refine op_2 HO rfl _ _ _ _ rfl (by repeat first | apply Has.head | apply Has.tail) (by repeat first | apply Part.done | apply Part.take | apply Part.skip) ?_)
      | (with_reducible refine own_at_store 29 ?_; refine os_2 HO _ rfl rfl _ _ rfl (by repeat first | apply Sto.head | apply Sto.tail | apply Patch.put | apply Patch.skip | apply Patch.done) rfl ?_; intro WB HOn; clear HO; have HO := HOn; clear HOn)
      | (with_reducible refine own_at_box 4 ?_; refine sb_0 HO (.bool _) rfl rfl ?_; intro nB WB HOn; (try simp only [List.cons_append, List.nil_append] at HOn); clear HO; have HO := HOn; clear HOn)
      | (with_reducible refine own_at_alloc 4 ?_; refine sa_0 HO ?_; intro nB WB HOn; (try simp only [List.cons_append, List.nil_append] at HOn); clear HO; have HO := HOn; clear HOn)
      | (with_reducible refine own_at_load 4 ?_; refine sl_0 HO rfl _ _ _ _ rfl (by repeat first | apply Has.head | apply Has.tail) rfl ?_)
      | (with_reducible refine own_at_store 4 ?_; refine st_0 HO (.bool _) rfl rfl _ _ rfl (by repeat first | apply Sto.head | apply Sto.tail | apply Patch.put | apply Patch.skip | apply Patch.done) rfl ?_; intro WB HOn; clear HO; have HO := HOn; clear HOn)
      | (with_reducible refine own_at_box 3 ?_; refine sb_1 HO (.int .i64 _) rfl rfl ?_; intro nB WB HOn; (try simp only [List.cons_append, List.nil_append] at HOn); clear HO; have HO := HOn; clear HOn)
      | (with_reducible refine own_at_alloc 3 ?_; refine sa_1 HO ?_; intro nB WB HOn; (try simp only [List.cons_append, List.nil_append] at HOn); clear HO; have HO := HOn; clear HOn)
      | (with_reducible refine own_at_load 3 ?_; refine sl_1 HO rfl _ _ _ _ rfl (by repeat first | apply Has.head | apply Has.tail) rfl ?_)
      | (with_reducible refine own_at_store 3 ?_; refine st_1 HO (.int .i64 _) rfl rfl _ _ rfl (by repeat first | apply Sto.head | apply Sto.tail | apply Patch.put | apply Patch.skip | apply Patch.done) rfl ?_; intro WB HOn; clear HO; have HO := HOn; clear HOn)
      | (with_reducible refine own_at_box 30 ?_; refine sb_2 HO (.slice _ _ _) rfl rfl ?_; intro nB WB HOn; (try simp only [List.cons_append, List.nil_append] at HOn); clear HO; have HO := HOn; clear HOn)
      | (with_reducible refine own_at_alloc 30 ?_; refine sa_2 HO ?_; intro nB WB HOn; (try simp only [List.cons_append, List.nil_append] at HOn); clear HO; have HO := HOn; clear HOn)
      | (with_reducible refine own_at_load 30 ?_; refine sl_2 HO rfl _ _ _ _ rfl (by repeat first | apply Has.head | apply Has.tail) rfl ?_)
      | (with_reducible refine own_at_store 30 ?_; refine st_2 HO (.slice _ _ _) rfl rfl _ _ rfl (by repeat first | apply Sto.head | apply Sto.tail | apply Patch.put | apply Patch.skip | apply Patch.done) rfl ?_; intro WB HOn; clear HO; have HO := HOn; clear HOn))
  exact own_ret_c HO _ _ rfl 2 _ _ rfl rfl _ Try.underlying32 rfl oinfo_0 rfl ⟨rfl, HO.q⟩
set_option maxRecDepth 100000 in
set_option maxHeartbeats 16000000 in
theorem freeze_f (d0 d1 : Int) (d2 : Bool) (d3 : Int) (d4 d5 : Bool) (d6 d7 : Int) (d8 d9 d10 : Bool) (d11 d12 d13 d14 d15 d16 : Int) (d17 : Bool) (a : Option Addr) (l c : Nat) (w : World) :
    Calls Try.prog 17 #[.agg #[i6 d0, uw d1, .bool d2, i6 d3, .bool d4, .bool d5, i6 d6, uw d7, .bool d8, .bool d9, .bool d10, i6 d11, i6 d12, i6 d13, i6 d14, uw d15, i6 d16, .bool d17, .slice a l c]] w fun e w' => e = .returned (.agg #[i6 d0, uw d1, .bool d2, i6 d3, .bool d4, .bool d5, i6 d6, uw d7, .bool d8, .bool true, .bool false, i6 d11, i6 d12, i6 d13, i6 d14, uw d15, i6 d16, .bool d17, .slice a l c]) ∧ Below w.heap.size w w' := by
  go_enter Try.func17, Try.ntmps17
  have HO := Own.nil w
  go_wp2_with (first
      | (with_reducible refine own_at_box 32 ?_; refine ob_0 HO _ rfl ?_; intro nB WB HOn; (try simp only [List.cons_append, List.nil_append] at HOn); clear HO; have HO := HOn; clear HOn)
      | (with_reducible refine own_at_alloc 32 ?_; refine oa_0 HO ?_; intro nB WB HOn; (try simp only [List.cons_append, List.nil_append] at HOn); clear HO; have HO := HOn; clear HOn)
      | (with_reducible refine own_at_load 32 ?_; first | refine ol_0 HO rfl _ _ rfl (by repeat first | apply Has.head | apply Has.tail) rfl ?_ | refine op_0 HO rfl _ _ _ _ rfl (by repeat first | apply Has.head | apply Has.tail) (by repeat first | apply Part.done | apply Part.take | apply Part.skip) ?_)
      | (with_reducible refine own_at_store 32 ?_; refine os_0 HO _ rfl rfl _ _ rfl (by repeat first | apply Sto.head | apply Sto.tail | apply Patch.put | apply Patch.skip | apply Patch.done) rfl ?_; intro WB HOn; clear HO; have HO := HOn; clear HOn)
      | (with_reducible refine own_at_box 27 ?_; refine ob_1 HO _ rfl ?_; intro nB WB HOn; (try simp only [List.cons_append, List.nil_append] at HOn); clear HO; have HO := HOn; clear HOn)
      | (with_reducible refine own_at_alloc 27 ?_; refine oa_1 HO ?_; intro nB WB HOn; (try simp only [List.cons_append, List.nil_append] at HOn); clear HO; have HO := HOn; clear HOn)
      | (with_reducible refine own_at_load 27 ?_; first | refine ol_1 HO rfl _ _ rfl (by repeat first | apply Has.head | apply Has.tail) rfl ?_ | refine op_1 HO rfl _ _ _ _ rfl (by repeat first | apply Has.head | apply Has.tail) (by repeat first | apply Part.done | apply Part.take | apply Part.skip) ?_)
      | (with_reducible refine own_at_store 27 ?_; refine os_1 HO _ rfl rfl _ _ rfl (by repeat first | apply Sto.head | apply Sto.tail | apply Patch.put | apply Patch.skip | apply Patch.done) rfl ?_; intro WB HOn; clear HO; have HO := HOn; clear HOn)
      | (with_reducible refine own_at_box 29 ?_; refine ob_2 HO _ rfl ?_; intro nB WB HOn; (try simp only [List.cons_append, List.nil_append] at HOn); clear HO; have HO := HOn; clear HOn)
      | (with_reducible refine own_at_alloc 29 ?_; refine oa_2 HO ?_; intro nB WB HOn; (try simp only [List.cons_append, List.nil_append] at HOn); clear HO; have HO := HOn; clear HOn)
      | (with_reducible refine own_at_load 29 ?_; first | refine ol_2 HO rfl _ _ rfl (by repeat first | apply Has.head | apply Has.tail) rfl ?_ | refine op_2 HO rfl _ _ _ _ rfl (by repeat first | apply Has.head | apply Has.tail) (by repeat first | apply Part.done | apply Part.take | apply Part.skip) ?_)
      | (with_reducible refine own_at_store 29 ?_; refine os_2 HO _ rfl rfl _ _ rfl (by repeat first | apply Sto.head | apply Sto.tail | apply Patch.put | apply Patch.skip | apply Patch.done) rfl ?_; intro WB HOn; clear HO; have HO := HOn; clear HOn)
      | (with_reducible refine own_at_box 4 ?_; refine sb_0 HO (.bool _) rfl rfl ?_; intro nB WB HOn; (try simp only [List.cons_append, List.nil_append] at HOn); clear HO; have HO := HOn; clear HOn)
      | (with_reducible refine own_at_alloc 4 ?_; refine sa_0 HO ?_; intro nB WB HOn; (try simp only [List.cons_append, List.nil_append] at HOn); clear HO; have HO := HOn; clear HOn)
      | (with_reducible refine own_at_load 4 ?_; refine sl_0 HO rfl _ _ _ _ rfl (by repeat first | apply Has.head | apply Has.tail) rfl ?_)
      | (with_reducible refine own_at_store 4 ?_; refine st_0 HO (.bool _) rfl rfl _ _ rfl (by repeat first | apply Sto.head | apply Sto.tail | apply Patch.put | apply Patch.skip | apply Patch.done) rfl ?_; intro WB HOn; clear HO; have HO := HOn; clear HOn)
      | (with_reducible refine own_at_box 3 ?_; refine sb_1 HO (.int .i64 _) rfl rfl ?_; intro nB WB HOn; (try simp only [List.cons_append, List.nil_append] at HOn); clear HO; have HO := HOn; clear HOn)
      | (with_reducible refine own_at_alloc 3 ?_; refine sa_1 HO ?_; intro nB WB HOn; (try simp only [List.cons_append, List.nil_append] at HOn); clear HO; have HO := HOn; clear HOn)
      | (with_reducible refine own_at_load 3 ?_; refine sl_1 HO rfl _ _ _ _ rfl (by repeat first | apply Has.head | apply Has.tail) rfl ?_)
      | (with_reducible refine own_at_store 3 ?_; refine st_1 HO (.int .i64 _) rfl rfl _ _ rfl (by repeat first | apply Sto.head | apply Sto.tail | apply Patch.put | apply Patch.skip | apply Patch.done) rfl ?_; intro WB HOn; clear HO; have HO := HOn; clear HOn)
      | (with_reducible refine own_at_box 30 ?_; refine sb_2 HO (.slice _ _ _) rfl rfl ?_; intro nB WB HOn; (try simp only [List.cons_append, List.nil_append] at HOn); clear HO; have HO := HOn; clear HOn)
      | (with_reducible refine own_at_alloc 30 ?_; refine sa_2 HO ?_; intro nB WB HOn; (try simp only [List.cons_append, List.nil_append] at HOn); clear HO; have HO := HOn; clear HOn)
      | (with_reducible refine own_at_load 30 ?_; refine sl_2 HO rfl _ _ _ _ rfl (by repeat first | apply Has.head | apply Has.tail) rfl ?_)
      | (with_reducible refine own_at_store 30 ?_; refine st_2 HO (.slice _ _ _) rfl rfl _ _ rfl (by repeat first | apply Sto.head | apply Sto.tail | apply Patch.put | apply Patch.skip | apply Patch.done) rfl ?_; intro WB HOn; clear HO; have HO := HOn; clear HOn))
  exact own_ret_c HO _ _ rfl 1 _ _ rfl rfl _ Try.underlying32 rfl oinfo_0 rfl ⟨rfl, HO.q⟩
set_option maxRecDepth 100000 in
set_option maxHeartbeats 16000000 in
theorem frozen_f (d0 d1 : Int) (d2 : Bool) (d3 : Int) (d4 d5 : Bool) (d6 d7 : Int) (d8 d9 d10 : Bool) (d11 d12 d13 d14 d15 d16 : Int) (d17 : Bool) (a : Option Addr) (l c : Nat) (w : World) :
    Calls Try.prog 14 #[.agg #[i6 d0, uw d1, .bool d2, i6 d3, .bool d4, .bool d5, i6 d6, uw d7, .bool d8, .bool d9, .bool d10, i6 d11, i6 d12, i6 d13, i6 d14, uw d15, i6 d16, .bool d17, .slice a l c]] w fun e w' => e = .returned (.bool d9) ∧ Below w.heap.size w w' := by
  go_enter Try.func14, Try.ntmps14
  have HO := Own.nil w
  go_wp2_with (first
      | (with_reducible refine own_at_box 32 ?_; refine ob_0 HO _ rfl ?_; intro nB WB HOn; (try simp only [List.cons_append, List.nil_append] at HOn); clear HO; have HO := HOn; clear HOn)
      | (with_reducible refine own_at_alloc 32 ?_; refine oa_0 HO ?_; intro nB WB HOn; (try simp only [List.cons_append, List.nil_append] at HOn); clear HO; have HO := HOn; clear HOn)
      | (with_reducible refine own_at_load 32 ?_; first | refine ol_0 HO rfl _ _ rfl (by repeat first | apply Has.head | apply Has.tail) rfl ?_ | refine op_0 HO rfl _ _ _ _ rfl (by repeat first | apply Has.head | apply Has.tail) (by repeat first | apply Part.done | apply Part.take | apply Part.skip) ?_)
      | (with_reducible refine own_at_store 32 ?_; refine os_0 HO _ rfl rfl _ _ rfl (by repeat first | apply Sto.head | apply Sto.tail | apply Patch.put | apply Patch.skip | apply Patch.done) rfl ?_; intro WB HOn; clear HO; have HO := HOn; clear HOn)
      | (with_reducible refine own_at_box 27 ?_; refine ob_1 HO _ rfl ?_; intro nB WB HOn; (try simp only [List.cons_append, List.nil_append] at HOn); clear HO; have HO := HOn; clear HOn)
      | (with_reducible refine own_at_alloc 27 ?_; refine oa_1 HO ?_; intro nB WB HOn; (try simp only [List.cons_append, List.nil_append] at HOn); clear HO; have HO := HOn; clear HOn)
      | (with_reducible refine own_at_load 27 ?_; first | refine ol_1 HO rfl _ _ rfl (by repeat first | apply Has.head | apply Has.tail) rfl ?_ | refine op_1 HO rfl _ _ _ _ rfl (by repeat first | apply Has.head | apply Has.tail) (by repeat first | apply Part.done | apply Part.take | apply Part.skip) ?_)
      | (with_reducible refine own_at_store 27 ?_; refine os_1 HO _ rfl rfl _ _ rfl (by repeat first | apply Sto.head | apply Sto.tail | apply Patch.put | apply Patch.skip | apply Patch.done) rfl ?_; intro WB HOn; clear HO; have HO := HOn; clear HOn)
      | (with_reducible refine own_at_box 29 ?_; refine ob_2 HO _ rfl ?_; intro nB WB HOn; (try simp only [List.cons_append, List.nil_append] at HOn); clear HO; have HO := HOn; clear HOn)
      | (with_reducible refine own_at_alloc 29 ?_; refine oa_2 HO ?_; intro nB WB HOn; (try simp only [List.cons_append, List.nil_append] at HOn); clear HO; have HO := HOn; clear HOn)
      | (with_reducible refine own_at_load 29 ?_; first | refine ol_2 HO rfl _ _ rfl (by repeat first | apply Has.head | apply Has.tail) rfl ?_ | refine op_2 HO rfl _ _ _ _ rfl (by repeat first | apply Has.head | apply Has.tail) (by repeat first | apply Part.done | apply Part.take | apply Part.skip) ?_)
      | (with_reducible refine own_at_store 29 ?_; refine os_2 HO _ rfl rfl _ _ rfl (by repeat first | apply Sto.head | apply Sto.tail | apply Patch.put | apply Patch.skip | apply Patch.done) rfl ?_; intro WB HOn; clear HO; have HO := HOn; clear HOn)
      | (with_reducible refine own_at_box 4 ?_; refine sb_0 HO (.bool _) rfl rfl ?_; intro nB WB HOn; (try simp only [List.cons_append, List.nil_append] at HOn); clear HO; have HO := HOn; clear HOn)
      | (with_reducible refine own_at_alloc 4 ?_; refine sa_0 HO ?_; intro nB WB HOn; (try simp only [List.cons_append, List.nil_append] at HOn); clear HO; have HO := HOn; clear HOn)
      | (with_reducible refine own_at_load 4 ?_; refine sl_0 HO rfl _ _ _ _ rfl (by repeat first | apply Has.head | apply Has.tail) rfl ?_)
      | (with_reducible refine own_at_store 4 ?_; refine st_0 HO (.bool _) rfl rfl _ _ rfl (by repeat first | apply Sto.head | apply Sto.tail | apply Patch.put | apply Patch.skip | apply Patch.done) rfl ?_; intro WB HOn; clear HO; have HO := HOn; clear HOn)
      | (with_reducible refine own_at_box 3 ?_; refine sb_1 HO (.int .i64 _) rfl rfl ?_; intro nB WB HOn; (try simp only [List.cons_append, List.nil_append] at HOn); clear HO; have HO := HOn; clear HOn)
      | (with_reducible refine own_at_alloc 3 ?_; refine sa_1 HO ?_; intro nB WB HOn; (try simp only [List.cons_append, List.nil_append] at HOn); clear HO; have HO := HOn; clear HOn)
      | (with_reducible refine own_at_load 3 ?_; refine sl_1 HO rfl _ _ _ _ rfl (by repeat first | apply Has.head | apply Has.tail) rfl ?_)
      | (with_reducible refine own_at_store 3 ?_; refine st_1 HO (.int .i64 _) rfl rfl _ _ rfl (by repeat first | apply Sto.head | apply Sto.tail | apply Patch.put | apply Patch.skip | apply Patch.done) rfl ?_; intro WB HOn; clear HO; have HO := HOn; clear HOn)
      | (with_reducible refine own_at_box 30 ?_; refine sb_2 HO (.slice _ _ _) rfl rfl ?_; intro nB WB HOn; (try simp only [List.cons_append, List.nil_append] at HOn); clear HO; have HO := HOn; clear HOn)
      | (with_reducible refine own_at_alloc 30 ?_; refine sa_2 HO ?_; intro nB WB HOn; (try simp only [List.cons_append, List.nil_append] at HOn); clear HO; have HO := HOn; clear HOn)
      | (with_reducible refine own_at_load 30 ?_; refine sl_2 HO rfl _ _ _ _ rfl (by repeat first | apply Has.head | apply Has.tail) rfl ?_)
      | (with_reducible refine own_at_store 30 ?_; refine st_2 HO (.slice _ _ _) rfl rfl _ _ rfl (by repeat first | apply Sto.head | apply Sto.tail | apply Patch.put | apply Patch.skip | apply Patch.done) rfl ?_; intro WB HOn; clear HO; have HO := HOn; clear HOn))
  go_returns
  exact ⟨by first | rfl | (simp; done), HO.q⟩
set_option maxRecDepth 100000 in
set_option maxHeartbeats 16000000 in
theorem stepping_f (d0 d1 : Int) (d2 : Bool) (d3 : Int) (d4 d5 : Bool) (d6 d7 : Int) (d8 d9 d10 : Bool) (d11 d12 d13 d14 d15 d16 : Int) (d17 : Bool) (a : Option Addr) (l c : Nat) (w : World) :
    Calls Try.prog 33 #[.agg #[i6 d0, uw d1, .bool d2, i6 d3, .bool d4, .bool d5, i6 d6, uw d7, .bool d8, .bool d9, .bool d10, i6 d11, i6 d12, i6 d13, i6 d14, uw d15, i6 d16, .bool d17, .slice a l c]] w fun e w' => e = .returned (.bool d10) ∧ Below w.heap.size w w' := by
  go_enter Try.func33, Try.ntmps33
  have HO := Own.nil w
  go_wp2_with (first
      | (with_reducible refine own_at_box 32 ?_; refine ob_0 HO _ rfl ?_; intro nB WB HOn; (try simp only [List.cons_append, List.nil_append] at HOn); clear HO; have HO := HOn; clear HOn)
      | (with_reducible refine own_at_alloc 32 ?_; refine oa_0 HO ?_; intro nB WB HOn; (try simp only [List.cons_append, List.nil_append] at HOn); clear HO; have HO := HOn; clear HOn)
      | (with_reducible refine own_at_load 32 ?_; first | refine ol_0 HO rfl _ _ rfl (by repeat first | apply Has.head | apply Has.tail) rfl ?_ | refine op_0 HO rfl _ _ _ _ rfl (by repeat first | apply Has.head | apply Has.tail) (by repeat first | apply Part.done | apply Part.take | apply Part.skip) ?_)
      | (with_reducible refine own_at_store 32 ?_; refine os_0 HO _ rfl rfl _ _ rfl (by repeat first | apply Sto.head | apply Sto.tail | apply Patch.put | apply Patch.skip | apply Patch.done) rfl ?_; intro WB HOn; clear HO; have HO := HOn; clear HOn)
      | (with_reducible refine own_at_box 27 ?_; refine ob_1 HO _ rfl ?_; intro nB WB HOn; (try simp only [List.cons_append, List.nil_append] at HOn); clear HO; have HO := HOn; clear HOn)
      | (with_reducible refine own_at_alloc 27 ?_; refine oa_1 HO ?_; intro nB WB HOn; (try simp only [List.cons_append, List.nil_append] at HOn); clear HO; have HO := HOn; clear HOn)
      | (with_reducible refine own_at_load 27 ?_; first | refine ol_1 HO rfl _ _ rfl (by repeat first | apply Has.head | apply Has.tail) rfl ?_ | refine op_1 HO rfl _ _ _ _ rfl (by repeat first | apply Has.head | apply Has.tail) (by repeat first | apply Part.done | apply Part.take | apply Part.skip) ?_)
      | (with_reducible refine own_at_store 27 ?_; refine os_1 HO _ rfl rfl _ _ rfl (by repeat first | apply Sto.head | apply Sto.tail | apply Patch.put | apply Patch.skip | apply Patch.done) rfl ?_; intro WB HOn; clear HO; have HO := HOn; clear HOn)
      | (with_reducible refine own_at_box 29 ?_; refine ob_2 HO _ rfl ?_; intro nB WB HOn; (try simp only [List.cons_append, List.nil_append] at HOn); clear HO; have HO := HOn; clear HOn)
      | (with_reducible refine own_at_alloc 29 ?_; refine oa_2 HO ?_; intro nB WB HOn; (try simp only [List.cons_append, List.nil_append] at HOn); clear HO; have HO := HOn; clear HOn)
      | (with_reducible refine own_at_load 29 ?_; first | refine ol_2 HO rfl _ _ rfl (by repeat first | apply Has.head | apply Has.tail) rfl ?_ | refine op_2 HO rfl _ _ _ _ rfl (by repeat first | apply Has.head | apply Has.tail) (by repeat first | apply Part.done | apply Part.take | apply Part.skip) ?_)
      | (with_reducible refine own_at_store 29 ?_; refine os_2 HO _ rfl rfl _ _ rfl (by repeat first | apply Sto.head | apply Sto.tail | apply Patch.put | apply Patch.skip | apply Patch.done) rfl ?_; intro WB HOn; clear HO; have HO := HOn; clear HOn)
      | (with_reducible refine own_at_box 4 ?_; refine sb_0 HO (.bool _) rfl rfl ?_; intro nB WB HOn; (try simp only [List.cons_append, List.nil_append] at HOn); clear HO; have HO := HOn; clear HOn)
      | (with_reducible refine own_at_alloc 4 ?_; refine sa_0 HO ?_; intro nB WB HOn; (try simp only [List.cons_append, List.nil_append] at HOn); clear HO; have HO := HOn; clear HOn)
      | (with_reducible refine own_at_load 4 ?_; refine sl_0 HO rfl _ _ _ _ rfl (by repeat first | apply Has.head | apply Has.tail) rfl ?_)
      | (with_reducible refine own_at_store 4 ?_; refine st_0 HO (.bool _) rfl rfl _ _ rfl (by repeat first | apply Sto.head | apply Sto.tail | apply Patch.put | apply Patch.skip | apply Patch.done) rfl ?_; intro WB HOn; clear HO; have HO := HOn; clear HOn)
      | (with_reducible refine own_at_box 3 ?_; refine sb_1 HO (.int .i64 _) rfl rfl ?_; intro nB WB HOn; (try simp only [List.cons_append, List.nil_append] at HOn); clear HO; have HO := HOn; clear HOn)
      | (with_reducible refine own_at_alloc 3 ?_; refine sa_1 HO ?_; intro nB WB HOn; (try simp only [List.cons_append, List.nil_append] at HOn); clear HO; have HO := HOn; clear HOn)
      | (with_reducible refine own_at_load 3 ?_; refine sl_1 HO rfl _ _ _ _ rfl (by repeat first | apply Has.head | apply Has.tail) rfl ?_)
      | (with_reducible refine own_at_store 3 ?_; refine st_1 HO (.int .i64 _) rfl rfl _ _ rfl (by repeat first | apply Sto.head | apply Sto.tail | apply Patch.put | apply Patch.skip | apply Patch.done) rfl ?_; intro WB HOn; clear HO; have HO := HOn; clear HOn)
      | (with_reducible refine own_at_box 30 ?_; refine sb_2 HO (.slice _ _ _) rfl rfl ?_; intro nB WB HOn; (try simp only [List.cons_append, List.nil_append] at HOn); clear HO; have HO := HOn; clear HOn)
      | (with_reducible refine own_at_alloc 30 ?_; refine sa_2 HO ?_; intro nB WB HOn; (try simp only [List.cons_append, List.nil_append] at HOn); clear HO; have HO := HOn; clear HOn)
      | (with_reducible refine own_at_load 30 ?_; refine sl_2 HO rfl _ _ _ _ rfl (by repeat first | apply Has.head | apply Has.tail) rfl ?_)
      | (with_reducible refine own_at_store 30 ?_; refine st_2 HO (.slice _ _ _) rfl rfl _ _ rfl (by repeat first | apply Sto.head | apply Sto.tail | apply Patch.put | apply Patch.skip | apply Patch.done) rfl ?_; intro WB HOn; clear HO; have HO := HOn; clear HOn))
  go_returns
  exact ⟨by first | rfl | (simp; done), HO.q⟩
set_option maxRecDepth 100000 in
set_option maxHeartbeats 16000000 in
theorem async_f (d0 d1 : Int) (d2 : Bool) (d3 : Int) (d4 d5 : Bool) (d6 d7 : Int) (d8 d9 d10 : Bool) (d11 d12 d13 d14 d15 d16 : Int) (d17 : Bool) (a : Option Addr) (l c : Nat) (w : World) :
    Calls Try.prog 25 #[.agg #[i6 d0, uw d1, .bool d2, i6 d3, .bool d4, .bool d5, i6 d6, uw d7, .bool d8, .bool d9, .bool d10, i6 d11, i6 d12, i6 d13, i6 d14, uw d15, i6 d16, .bool d17, .slice a l c]] w fun e w' => e = .returned (.tuple #[.agg #[i6 d0, uw d1, .bool d2, i6 d3, .bool d4, .bool d5, i6 d6, uw d7, .bool d8, .bool false, .bool false, i6 0, i6 0, i6 0, i6 0, uw 0, i6 0, .bool false, .slice a l c], .agg #[i6 0, i6 0, i6 0, i6 0, uw 0, i6 0], .bool false]) ∧ Below w.heap.size w w' := by
  go_enter Try.func25, Try.ntmps25
  have HO := Own.nil w
  go_wp2_with (first
      | (with_reducible refine own_at_box 32 ?_; refine ob_0 HO _ rfl ?_; intro nB WB HOn; (try simp only [List.cons_append, List.nil_append] at HOn); clear HO; have HO := HOn; clear HOn)
      | (with_reducible refine own_at_alloc 32 ?_; refine oa_0 HO ?_; intro nB WB HOn; (try simp only [List.cons_append, List.nil_append] at HOn); clear HO; have HO := HOn; clear HOn)
      | (with_reducible refine own_at_load 32 ?_; first | refine ol_0 HO rfl _ _ rfl (by repeat first | apply Has.head | apply Has.tail) rfl ?_ | refine op_0 HO rfl _ _ _ _ rfl (by repeat first | apply Has.head | apply Has.tail) (by repeat first | apply Part.done | apply Part.take | apply Part.skip) ?_)
      | (with_reducible refine own_at_store 32 ?_; refine os_0 HO _ rfl rfl _ _ rfl (by repeat first | apply Sto.head | apply Sto.tail | apply Patch.put | apply Patch.skip | apply Patch.done) rfl ?_; intro WB HOn; clear HO; have HO := HOn; clear HOn)
      | (with_reducible refine own_at_box 27 ?_; refine ob_1 HO _ rfl ?_; intro nB WB HOn; (try simp only [List.cons_append, List.nil_append] at HOn); clear HO; have HO := HOn; clear HOn)
      | (with_reducible refine own_at_alloc 27 ?_; refine oa_1 HO ?_; intro nB WB HOn; (try simp only [List.cons_append, List.nil_append] at HOn); clear HO; have HO := HOn; clear HOn)
      | (with_reducible refine own_at_load 27 ?_; first | refine ol_1 HO rfl _ _ rfl (by repeat first | apply Has.head | apply Has.tail) rfl ?_ | refine op_1 HO rfl _ _ _ _ rfl (by repeat first | apply Has.head | apply Has.tail) (by repeat first | apply Part.done | apply Part.take | apply Part.skip) ?_)
      | (with_reducible refine own_at_store 27 ?_; refine os_1 HO _ rfl rfl _ _ rfl (by repeat first | apply Sto.head | apply Sto.tail | apply Patch.put | apply Patch.skip | apply Patch.done) rfl ?_; intro WB HOn; clear HO; have HO := HOn; clear HOn)
      | (with_reducible refine own_at_box 29 ?_; refine ob_2 HO _ rfl ?_; intro nB WB HOn; (try simp only [List.cons_append, List.nil_append] at HOn); clear HO; have HO := HOn; clear HOn)
      | (with_reducible refine own_at_alloc 29 ?_; refine oa_2 HO ?_; intro nB WB HOn; (try simp only [List.cons_append, List.nil_append] at HOn); clear HO; have HO := HOn; clear HOn)
      | (with_reducible refine own_at_load 29 ?_; first | refine ol_2 HO rfl _ _ rfl (by repeat first | apply Has.head | apply Has.tail) rfl ?_ | refine op_2 HO rfl _ _ _ _ rfl (by repeat first | apply Has.head | apply Has.tail) (by repeat first | apply Part.done | apply Part.take | apply Part.skip) ?_)
      | (with_reducible refine own_at_store 29 ?_; refine os_2 HO _ rfl rfl _ _ rfl (by repeat first | apply Sto.head | apply Sto.tail | apply Patch.put | apply Patch.skip | apply Patch.done) rfl ?_; intro WB HOn; clear HO; have HO := HOn; clear HOn)
      | (with_reducible refine own_at_box 4 ?_; refine sb_0 HO (.bool _) rfl rfl ?_; intro nB WB HOn; (try simp only [List.cons_append, List.nil_append] at HOn); clear HO; have HO := HOn; clear HOn)
      | (with_reducible refine own_at_alloc 4 ?_; refine sa_0 HO ?_; intro nB WB HOn; (try simp only [List.cons_append, List.nil_append] at HOn); clear HO; have HO := HOn; clear HOn)
      | (with_reducible refine own_at_load 4 ?_; refine sl_0 HO rfl _ _ _ _ rfl (by repeat first | apply Has.head | apply Has.tail) rfl ?_)
      | (with_reducible refine own_at_store 4 ?_; refine st_0 HO (.bool _) rfl rfl _ _ rfl (by repeat first | apply Sto.head | apply Sto.tail | apply Patch.put | apply Patch.skip | apply Patch.done) rfl ?_; intro WB HOn; clear HO; have HO := HOn; clear HOn)
      | (with_reducible refine own_at_box 3 ?_; refine sb_1 HO (.int .i64 _) rfl rfl ?_; intro nB WB HOn; (try simp only [List.cons_append, List.nil_append] at HOn); clear HO; have HO := HOn; clear HOn)
      | (with_reducible refine own_at_alloc 3 ?_; refine sa_1 HO ?_; intro nB WB HOn; (try simp only [List.cons_append, List.nil_append] at HOn); clear HO; have HO := HOn; clear HOn)
      | (with_reducible refine own_at_load 3 ?_; refine sl_1 HO rfl _ _ _ _ rfl (by repeat first | apply Has.head | apply Has.tail) rfl ?_)
      | (with_reducible refine own_at_store 3 ?_; refine st_1 HO (.int .i64 _) rfl rfl _ _ rfl (by repeat first | apply Sto.head | apply Sto.tail | apply Patch.put | apply Patch.skip | apply Patch.done) rfl ?_; intro WB HOn; clear HO; have HO := HOn; clear HOn)
      | (with_reducible refine own_at_box 30 ?_; refine sb_2 HO (.slice _ _ _) rfl rfl ?_; intro nB WB HOn; (try simp only [List.cons_append, List.nil_append] at HOn); clear HO; have HO := HOn; clear HOn)
      | (with_reducible refine own_at_alloc 30 ?_; refine sa_2 HO ?_; intro nB WB HOn; (try simp only [List.cons_append, List.nil_append] at HOn); clear HO; have HO := HOn; clear HOn)
      | (with_reducible refine own_at_load 30 ?_; refine sl_2 HO rfl _ _ _ _ rfl (by repeat first | apply Has.head | apply Has.tail) rfl ?_)
      | (with_reducible refine own_at_store 30 ?_; refine st_2 HO (.slice _ _ _) rfl rfl _ _ rfl (by repeat first | apply Sto.head | apply Sto.tail | apply Patch.put | apply Patch.skip | apply Patch.done) rfl ?_; intro WB HOn; clear HO; have HO := HOn; clear HOn)
      | (go_at_call 24; refine (free_f _ _ _ _ _ _ _ _ _ _ _ _ _ _ _ _ _ _ _ _ _ _).mono ?_; rintro e wc ⟨rfl, hb⟩; have HOn := HO.below hb; clear HO hb; have HO := HOn; clear HOn))
  exact own_ret_cct HO _ _ _ _ _ rfl 1 2 _ _ _ _ _ rfl rfl rfl rfl rfl _ _ Try.underlying32 rfl oinfo_0 Try.underlying29 rfl oinfo_2 rfl ⟨rfl, HO.q⟩
set_option maxRecDepth 100000 in
set_option maxHeartbeats 16000000 in
theorem sync_f (d0 d1 : Int) (d2 : Bool) (d3 : Int) (d4 d5 : Bool) (d6 d7 : Int) (d8 d9 d10 : Bool) (d11 d12 d13 d14 d15 d16 : Int) (d17 : Bool) (a : Option Addr) (l c : Nat) (w : World) :
    Calls Try.prog 26 #[.agg #[i6 d0, uw d1, .bool d2, i6 d3, .bool d4, .bool d5, i6 d6, uw d7, .bool d8, .bool d9, .bool d10, i6 d11, i6 d12, i6 d13, i6 d14, uw d15, i6 d16, .bool d17, .slice a l c]] w fun e w' => e = .returned (.tuple #[.agg #[i6 d0, uw d1, .bool d2, i6 d3, .bool d4, .bool d5, i6 d6, uw d7, .bool d8, .bool false, .bool true, i6 0, i6 0, i6 0, i6 0, uw 0, i6 0, .bool false, .slice a l c], .agg #[i6 0, i6 0, i6 0, i6 0, uw 0, i6 0], .bool false]) ∧ Below w.heap.size w w' := by
  go_enter Try.func26, Try.ntmps26
  have HO := Own.nil w
  go_wp2_with (first
      | (with_reducible refine own_at_box 32 ?_; refine ob_0 HO _ rfl ?_; intro nB WB HOn; (try simp only [List.cons_append, List.nil_append] at HOn); clear HO; have HO := HOn; clear HOn)
      | (with_reducible refine own_at_alloc 32 ?_; refine oa_0 HO ?_; intro nB WB HOn; (try simp only [List.cons_append, List.nil_append] at HOn); clear HO; have HO := HOn; clear HOn)
      | (with_reducible refine own_at_load 32 ?_; first | refine ol_0 HO rfl _ _ rfl (by repeat first | apply Has.head | apply Has.tail) rfl ?_ | refine op_0 HO rfl _ _ _ _ rfl (by repeat first | apply Has.head | apply Has.tail) (by repeat first | apply Part.done | apply Part.take | apply Part.skip) ?_)
      | (with_reducible refine own_at_store 32 ?_; refine os_0 HO _ rfl rfl _ _ rfl (by repeat first | apply Sto.head | apply Sto.tail | apply Patch.put | apply Patch.skip | apply Patch.done) rfl ?_; intro WB HOn; clear HO; have HO := HOn; clear HOn)
      | (with_reducible refine own_at_box 27 ?_; refine ob_1 HO _ rfl ?_; intro nB WB HOn; (try simp only [List.cons_append, List.nil_append] at HOn); clear HO; have HO := HOn; clear HOn)
      | (with_reducible refine own_at_alloc 27 ?_; refine oa_1 HO ?_; intro nB WB HOn; (try simp only [List.cons_append, List.nil_append] at HOn); clear HO; have HO := HOn; clear HOn)
      | (with_reducible refine own_at_load 27 ?_; first | refine ol_1 HO rfl _ _ rfl (by repeat first | apply Has.head | apply Has.tail) rfl ?_ | refine op_1 HO rfl _ _ _ _ rfl (by repeat first | apply Has.head | apply Has.tail) (by repeat first | apply Part.done | apply Part.take | apply Part.skip) ?_)
      | (with_reducible refine own_at_store 27 ?_; refine os_1 HO _ rfl rfl _ _ rfl (by repeat first | apply Sto.head | apply Sto.tail | apply Patch.put | apply Patch.skip | apply Patch.done) rfl ?_; intro WB HOn; clear HO; have HO := HOn; clear HOn)
      | (with_reducible refine own_at_box 29 ?_; refine ob_2 HO _ rfl ?_; intro nB WB HOn; (try simp only [List.cons_append, List.nil_append] at HOn); clear HO; have HO := HOn; clear HOn)
      | (with_reducible refine own_at_alloc 29 ?_; refine oa_2 HO ?_; intro nB WB HOn; (try simp only [List.cons_append, List.nil_append] at HOn); clear HO; have HO := HOn; clear HOn)
      | (with_reducible refine own_at_load 29 ?_; first | refine ol_2 HO rfl _ _ rfl (by repeat first | apply Has.head | apply Has.tail) rfl ?_ | refine op_2 HO rfl _ _ _ _ rfl (by repeat first | apply Has.head | apply Has.tail) (by repeat first | apply Part.done | apply Part.take | apply Part.skip) ?_)
      | (with_reducible refine own_at_store 29 ?_; refine os_2 HO _ rfl rfl _ _ rfl (by repeat first | apply Sto.head | apply Sto.tail | apply Patch.put | apply Patch.skip | apply Patch.done) rfl ?_; intro WB HOn; clear HO; have HO := HOn; clear HOn)
      | (with_reducible refine own_at_box 4 ?_; refine sb_0 HO (.bool _) rfl rfl ?_; intro nB WB HOn; (try simp only [List.cons_append, List.nil_append] at HOn); clear HO; have HO := HOn; clear HOn)
      | (with_reducible refine own_at_alloc 4 ?_; refine sa_0 HO ?_; intro nB WB HOn; (try simp only [List.cons_append, List.nil_append] at HOn); clear HO; have HO := HOn; clear HOn)
      | (with_reducible refine own_at_load 4 ?_; refine sl_0 HO rfl _ _ _ _ rfl (by repeat first | apply Has.head | apply Has.tail) rfl ?_)
      | (with_reducible refine own_at_store 4 ?_; refine st_0 HO (.bool _) rfl rfl _ _ rfl (by repeat first | apply Sto.head | apply Sto.tail | apply Patch.put | apply Patch.skip | apply Patch.done) rfl ?_; intro WB HOn; clear HO; have HO := HOn; clear HOn)
      | (with_reducible refine own_at_box 3 ?_; refine sb_1 HO (.int .i64 _) rfl rfl ?_; intro nB WB HOn; (try simp only [List.cons_append, List.nil_append] at HOn); clear HO; have HO := HOn; clear HOn)
      | (with_reducible refine own_at_alloc 3 ?_; refine sa_1 HO ?_; intro nB WB HOn; (try simp only [List.cons_append, List.nil_append] at HOn); clear HO; have HO := HOn; clear HOn)
      | (with_reducible refine own_at_load 3 ?_; refine sl_1 HO rfl _ _ _ _ rfl (by repeat first | apply Has.head | apply Has.tail) rfl ?_)
      | (with_reducible refine own_at_store 3 ?_; refine st_1 HO (.int .i64 _) rfl rfl _ _ rfl (by repeat first | apply Sto.head | apply Sto.tail | apply Patch.put | apply Patch.skip | apply Patch.done) rfl ?_; intro WB HOn; clear HO; have HO := HOn; clear HOn)
      | (with_reducible refine own_at_box 30 ?_; refine sb_2 HO (.slice _ _ _) rfl rfl ?_; intro nB WB HOn; (try simp only [List.cons_append, List.nil_append] at HOn); clear HO; have HO := HOn; clear HOn)
      | (with_reducible refine own_at_alloc 30 ?_; refine sa_2 HO ?_; intro nB WB HOn; (try simp only [List.cons_append, List.nil_append] at HOn); clear HO; have HO := HOn; clear HOn)
      | (with_reducible refine own_at_load 30 ?_; refine sl_2 HO rfl _ _ _ _ rfl (by repeat first | apply Has.head | apply Has.tail) rfl ?_)
      | (with_reducible refine own_at_store 30 ?_; refine st_2 HO (.slice _ _ _) rfl rfl _ _ rfl (by repeat first | apply Sto.head | apply Sto.tail | apply Patch.put | apply Patch.skip | apply Patch.done) rfl ?_; intro WB HOn; clear HO; have HO := HOn; clear HOn)
      | (go_at_call 24; refine (free_f _ _ _ _ _ _ _ _ _ _ _ _ _ _ _ _ _ _ _ _ _ _).mono ?_; rintro e wc ⟨rfl, hb⟩; have HOn := HO.below hb; clear HO hb; have HO := HOn; clear HOn))
  exact own_ret_cct HO _ _ _ _ _ rfl 1 2 _ _ _ _ _ rfl rfl rfl rfl rfl _ _ Try.underlying32 rfl oinfo_0 Try.underlying29 rfl oinfo_2 rfl ⟨rfl, HO.q⟩
end Go.Proofs.Ytgcedookbblibaa
