/- Layer 3: the tables as the program tells them. -/
import Derived.Test.YtbffnobchjiaeaaDoorProg
import Derived.Test.YtbffnobchjiaeaaDoorLib
import Derived.Test.YtbffnobchjiaeaaDoorLib3
import Derived.Test.YtbffnobchjiaeaaDoorCd1
import Derived.Outline
import Derived.Handy
import Derived.KernelRfl
import Derived.Lib.Hide
import Derived.IntWalk
import Derived.Deep.QuietTactic
import Derived.BigQuiet
import Derived.OwnWalk
import Derived.Deep.WholeRow
import Derived.Deep.Cut
import Derived.Laws.Strings2
import Derived.Laws.Strings3
import Derived.Lib.SmallJoins
namespace Go.Proofs.YtbffnobchjiaeaaDoor
open Go Go.RowKit
set_option linter.unusedSimpArgs false
set_option linter.unusedVariables false
abbrev i6 (n : Int) : Value := .int .i64 n
abbrev strV (b : B8) : Value := .string ⟨b.toArray⟩
theorem stick {w : World} {p : Addr} {v : Value} (h : w.cell? p = some v) : ∀ W, Below w.heap.size w W → W.cell? p = some v := fun _ hb => cell_below hb h
def entV (e : E3) : List Value := [strV e.1, strV e.2.1, strV e.2.2]
abbrev eV (e : E3) : Value := .agg #[strV e.1, strV e.2.1, strV e.2.2]
def tabC (l : List E3) : Array Value := (l.flatMap entV).toArray
def tabV (l : List E3) : Value := .agg (tabC l)
theorem wpList_hide {P : Program} {ops : Array Oper} {rest : List Oper} {a : Act} {Q : Exit → Act → World → Prop} {w : World} (R : Act → Prop) (hR : R a) (h : ∀ A, R A → wpList P ops Q rest A w) : wpList P ops Q rest a w := h a hR
theorem put_none (a : Act) (v : Value) : a.put none v = a := rfl
/-- The last store of a table that a function hands back. -/
theorem tab_end {P : Program} {fn : Func} {ops : Array Oper} {o : Oper} {a : Act} {w : World} {Q : Exit → Act → World → Prop} {R : Ending → World → Prop} (ty : TypeId) (n : Nat) (e : TypeId) (old cells : Array Value) (hgd : o.guard = none) (hd : o.dst = none) (k : Nat) (ho : o.op = .store ty (.tmp 0) (.tmp k))
    (h0 : a.tmps.getD 0 undef = .pointer (some ⟨w.heap.size, 0, none⟩)) (h1 : a.tmps.getD k undef = .agg cells) (hde : a.defers = [])
    (hu : P.underlying ty = some (.array n e)) (hi : (P.info? ty).map (·.size) = some cells.size) (hs : old.size = cells.size) (hone : cells.all (·.oneCell') = true) (hres : fn.results = #[.cell 0 ty])
    (hQ : ∀ a w, Code.wp P .ret (bodyPost P fn R) a w → Q .normal a w)
    (hR : R (.returned (.agg cells)) (w.alloc (.cells cells ty))) : wpList P ops Q [o] a (w.alloc (.cells old ty)) := by
  refine wpList_store_row hgd ty _ _ ho w.heap.size cells ?_ ?_ ty old (heap_alloc_last w _) hi hs hone ?_
  · exact h0
  · exact h1
  · rw [World.setRow_alloc_new, hd, put_none]
    refine wpList_nil (hQ _ _ (wp_ret (bodyPost_ret (v := .agg cells) (results_cell_row hres _ _ w.heap.size ty cells (0, 0) (.array n e) h0 (heap_alloc_last w _) hu rfl hi) hde hR)))
theorem win_zero : ∀ w, (zeroValue 51).run Tryd.prog w = .ok (.agg (Array.replicate 48 (.string ⟨#[]⟩))) w := (zero_of_info (P := Tryd.prog) (t := 51) (v := .agg (Array.replicate 48 (.string ⟨#[]⟩))) (n := 48) (by kernel_rfl)).1
set_option maxRecDepth 100000 in
theorem win_any (w : World) : Calls Tryd.prog 35 #[] w fun e w' => e = .returned (tabV winT) ∧ Below w.heap.size w w' := by
  have hz := win_zero
  go_enter Tryd.func35, Tryd.ntmps35
  go_upto_region 1 with fail
  clear hz
  refine wp_region_lit ?_
  repeat (with_reducible refine wpList_build rfl _ _ rfl (by kernel_rfl) ?_)
  refine tab_end (fn := Tryd.f35) (R := fun e w' => e = .returned (tabV winT) ∧ Below w.heap.size w w') 51 16 44 _ (tabC winT) rfl rfl 17 rfl ?_ ?_ ?_ ?_ ?_ ?_ ?_ ?_ ?_ ?_
  · kernel_rfl
  · kernel_rfl
  · kernel_rfl
  · kernel_rfl
  · kernel_rfl
  · kernel_rfl
  · kernel_rfl
  · exact Tryd.results35
  · assumption
  · exact ⟨rfl, by (repeat' (first | with_reducible exact Below.refl _ _ | with_reducible assumption | with_reducible refine q_alloc ?_ _ | with_reducible refine q_drew ?_ | with_reducible refine q_drewN _ ?_ | with_reducible refine q_setCell ?_ ?_ _ | (left; simp; done) | (right; simp; done) | (right; dsimp only; omega) | (left; dsimp only; omega)))⟩
theorem draw_zero : ∀ w, (zeroValue 53).run Tryd.prog w = .ok (.agg (Array.replicate 60 (.string ⟨#[]⟩))) w := (zero_of_info (P := Tryd.prog) (t := 53) (v := .agg (Array.replicate 60 (.string ⟨#[]⟩))) (n := 60) (by kernel_rfl)).1
set_option maxRecDepth 100000 in
theorem draw_any (w : World) : Calls Tryd.prog 36 #[] w fun e w' => e = .returned (tabV drawT) ∧ Below w.heap.size w w' := by
  have hz := draw_zero
  go_enter Tryd.func36, Tryd.ntmps36
  go_upto_region 1 with fail
  clear hz
  refine wp_region_lit ?_
  repeat (with_reducible refine wpList_build rfl _ _ rfl (by kernel_rfl) ?_)
  refine tab_end (fn := Tryd.f36) (R := fun e w' => e = .returned (tabV drawT) ∧ Below w.heap.size w w') 53 20 44 _ (tabC drawT) rfl rfl 21 rfl ?_ ?_ ?_ ?_ ?_ ?_ ?_ ?_ ?_ ?_
  · kernel_rfl
  · kernel_rfl
  · kernel_rfl
  · kernel_rfl
  · kernel_rfl
  · kernel_rfl
  · kernel_rfl
  · exact Tryd.results36
  · assumption
  · exact ⟨rfl, by (repeat' (first | with_reducible exact Below.refl _ _ | with_reducible assumption | with_reducible refine q_alloc ?_ _ | with_reducible refine q_drew ?_ | with_reducible refine q_drewN _ ?_ | with_reducible refine q_setCell ?_ ?_ _ | (left; simp; done) | (right; simp; done) | (right; dsimp only; omega) | (left; dsimp only; omega)))⟩
theorem hand_zero : ∀ w, (zeroValue 55).run Tryd.prog w = .ok (.agg (Array.replicate 66 (.string ⟨#[]⟩))) w := (zero_of_info (P := Tryd.prog) (t := 55) (v := .agg (Array.replicate 66 (.string ⟨#[]⟩))) (n := 66) (by kernel_rfl)).1
set_option maxRecDepth 100000 in
theorem hand_any (w : World) : Calls Tryd.prog 37 #[] w fun e w' => e = .returned (tabV handT) ∧ Below w.heap.size w w' := by
  have hz := hand_zero
  go_enter Tryd.func37, Tryd.ntmps37
  go_upto_region 1 with fail
  clear hz
  refine wp_region_lit ?_
  repeat (with_reducible refine wpList_build rfl _ _ rfl (by kernel_rfl) ?_)
  refine tab_end (fn := Tryd.f37) (R := fun e w' => e = .returned (tabV handT) ∧ Below w.heap.size w w') 55 22 44 _ (tabC handT) rfl rfl 23 rfl ?_ ?_ ?_ ?_ ?_ ?_ ?_ ?_ ?_ ?_
  · kernel_rfl
  · kernel_rfl
  · kernel_rfl
  · kernel_rfl
  · kernel_rfl
  · kernel_rfl
  · kernel_rfl
  · exact Tryd.results37
  · assumption
  · exact ⟨rfl, by (repeat' (first | with_reducible exact Below.refl _ _ | with_reducible assumption | with_reducible refine q_alloc ?_ _ | with_reducible refine q_drew ?_ | with_reducible refine q_drewN _ ?_ | with_reducible refine q_setCell ?_ ?_ _ | (left; simp; done) | (right; simp; done) | (right; dsimp only; omega) | (left; dsimp only; omega)))⟩
theorem ev_zero : ∀ w, (zeroValue 60).run Tryd.prog w = .ok (.agg (Array.replicate 75 (.string ⟨#[]⟩))) w := (zero_of_info (P := Tryd.prog) (t := 60) (v := .agg (Array.replicate 75 (.string ⟨#[]⟩))) (n := 75) (by kernel_rfl)).1
set_option maxRecDepth 100000 in
theorem ev_any (w : World) : Calls Tryd.prog 40 #[] w fun e w' => e = .returned (tabV evT) ∧ Below w.heap.size w w' := by
  have hz := ev_zero
  go_enter Tryd.func40, Tryd.ntmps40
  go_upto_region 1 with fail
  clear hz
  refine wp_region_lit ?_
  repeat (with_reducible refine wpList_build rfl _ _ rfl (by kernel_rfl) ?_)
  refine tab_end (fn := Tryd.f40) (R := fun e w' => e = .returned (tabV evT) ∧ Below w.heap.size w w') 60 25 44 _ (tabC evT) rfl rfl 26 rfl ?_ ?_ ?_ ?_ ?_ ?_ ?_ ?_ ?_ ?_
  · kernel_rfl
  · kernel_rfl
  · kernel_rfl
  · kernel_rfl
  · kernel_rfl
  · kernel_rfl
  · kernel_rfl
  · exact Tryd.results40
  · assumption
  · exact ⟨rfl, by (repeat' (first | with_reducible exact Below.refl _ _ | with_reducible assumption | with_reducible refine q_alloc ?_ _ | with_reducible refine q_drew ?_ | with_reducible refine q_drewN _ ?_ | with_reducible refine q_setCell ?_ ?_ _ | (left; simp; done) | (right; simp; done) | (right; dsimp only; omega) | (left; dsimp only; omega)))⟩
end Go.Proofs.YtbffnobchjiaeaaDoor
