/- Layer 42: a take's ways with each kind of piece. -/
import Derived.Test.YtlaejolgjchfcaaPc5
import Derived.Laws.OwnMore
import Derived.Deep.RegionLaw
import Derived.Deep.RegionWith
import Derived.Deep.AppendLies
namespace Go.Proofs.Ytlaejolgjchfcaa
open Go Go.RowKit Go.Maps
set_option linter.unusedSimpArgs false
set_option linter.unusedVariables false
section
variable {P : Program}
theorem step_append_own {w : World} {ops : Array Oper} {o : Oper} {a : Act} {K : Act → World → Prop} {Q : Exit → Act → World → Prop} {E : Prop} (hgd : o.guard = none) (s x : Operand) (t : TypeId)
    (ho : o.op = .call { callee := .builtin .append, args := #[s, x], argTypes := #[t, t] })
    (base : Nat) (e : TypeId) (i : TypeInfo) (z : Value) (size bytes : Nat) (ht : P.underlying t = some (.slice e)) (hi : P.info? e = some i) (hz : i.zero = some z)
    (hsize : i.size = size) (hby : i.bytes = bytes) (hzs : z.cells.size = size) (hsz : 0 < size)
    (v : Value) (n : Nat) (xs : List Value) (hs : a.eval s = v) (hown : w.ownsRow base e size v n xs)
    (ad : Addr) (m c : Nat) (news : List Value) (hx : a.eval x = .slice (some ad) m c) (hl : news.length = m * size) (hnews : ∀ j u, news[j]? = some u → w.cell? (ad.add j) = some u) (h1 : ∀ u ∈ news, u.oneCell' = true)
    (h63 : n + m ≤ maxLen) (hbytes : (n + m) * bytes ≤ 140737488355328) (hbase : base ≤ w.heap.size)
    (h : ∀ v' w', w'.ownsRow base e size v' (n + m) (xs ++ news) → w.grownBy w' v.ownBlock → K (a.put o.dst v') w') :
    if Region.wanted o (yielded ops a.tmps) = true then Oper.wp P o a w K Q else E := by
  have hw : Region.wanted o (yielded ops a.tmps) = true := by simp [Region.wanted, hgd]
  rw [if_pos hw]
  exact wp_append_own w s x t ho base e i z size bytes ht hi hz hsize hby hzs hsz v n xs hs hown ad m c news hx hl hnews h1 h63 hbytes hbase fun v' w' h2 h3 _ => h v' w' h2 h3
end
theorem heap_own {w : World} {g : Nat} {us : List Int} (h : w.heap[g]? = some (.cells (us.map i6).toArray 2 (0, 0))) (hl : us.length ≤ maxLen) {B : Nat} (hB : B ≤ g) : OwnL w B (.slice (some ⟨g, 0, none⟩) us.length us.length) us :=
  ⟨by simp, .inr ⟨g, us.length, (us.map i6).toArray, rfl, hB, h, Nat.le_refl _, hl, by simp, List.take_of_length_le (by simp)⟩⟩
theorem copied_own (v : Value) (us : List Int) (w : World) (hv : IsI w v us) (hl : us.length ≤ 1000000) :
    Calls Try.prog 28 #[v] w fun e w' => e = .returned (.slice (some ⟨w.heap.size, 0, none⟩) us.length us.length) ∧ OwnL w' w.heap.size (.slice (some ⟨w.heap.size, 0, none⟩) us.length us.length) us ∧ Below w.heap.size w w' := by
  obtain ⟨a, cap, rfl, hf⟩ := isI_form hv
  by_cases h0 : us.length = 0
  · obtain rfl : us = [] := List.eq_nil_of_length_eq_zero h0
    have hmk : ∀ ww, (Instr.makeSlice 22 (.int .i64 0) (.int .i64 0)).run Try.prog ww = .ok (.slice (some ⟨ww.heap.size, 0, none⟩) 0 0) (ww.alloc (.cells (madeCells #[i6 0] 0) 2)) := fun ww => run_make_row' (P := Try.prog) 22 2 (i6 0) 8 und_i64s info_i64 rfl .i64 .i64 0 (by omega) (by omega) ww
    have hb0 : Below w.heap.size w (w.alloc (.cells (madeCells #[i6 0] 0) 2)) := q_alloc (Below.refl _ _) _
    have hcp := run_copy_none (P := Try.prog) (w.alloc (.cells (madeCells #[i6 0] 0) 2)) 22 22 3 2 (some ⟨w.heap.size, 0, none⟩) a 0 0 0 cap und_i64s size_i64 rfl
    have ho : OwnL (w.alloc (.cells (madeCells #[i6 0] 0) 2)) w.heap.size (.slice (some ⟨w.heap.size, 0, none⟩) 0 0) [] :=
      heap_own (us := []) (by rw [heap_alloc_new]; simp [madeCells]) (by unfold maxLen; simp) (Nat.le_refl _)
    have HO := Lib.hid ho
    clear ho hv hf
    go_enter Try.func28, Try.ntmps28
    go_wp2_with fail
    go_returns
    exact ⟨rfl, HO.out, hb0⟩
  have hmk := fun ww => run_make_row' (P := Try.prog) 22 2 (i6 0) 8 und_i64s info_i64 rfl .i64 .i64 us.length (by omega) (by omega) ww
  have hb0 : Below w.heap.size w (w.alloc (.cells (madeCells #[i6 0] us.length) 2)) := q_alloc (Below.refl _ _) _
  obtain ⟨b, off, rfl, hc1, hc2, hb, hlay⟩ := hf (by omega)
  have hcp := run_copy_row (P := Try.prog) (w.alloc (.cells (madeCells #[i6 0] us.length) 2)) 22 22 3 2 w.heap.size 0 us.length us.length ⟨b, off, none⟩ us.length cap (madeCells #[i6 0] us.length) 2 (us.map i6) und_i64s size_i64 (by rw [heap_alloc_new]) (by rw [show Nat.min us.length us.length = us.length from Nat.min_self _]; simp) (fun j u hj => by
      rw [List.getElem?_map] at hj
      obtain ⟨x, hx, rfl⟩ := Option.map_eq_some_iff.1 hj
      rw [addr_add]
      exact cell_below hb0 (hlay j x hx)) (by simp [madeCells]) (fun u hu => by
      obtain ⟨x, _, rfl⟩ := List.mem_map.1 hu
      rfl)
  have hrow := setRow_heap (w.alloc (.cells (madeCells #[i6 0] us.length) 2)) w.heap.size (madeCells #[i6 0] us.length) ((madeCells #[i6 0] us.length).toList.take 0 ++ (us.map i6 ++ (madeCells #[i6 0] us.length).toList.drop (0 + (us.map i6).length))).toArray 2 (0, 0) (heap_alloc_new _ _)
  have hfin : (madeCells #[i6 0] us.length).toList.take 0 ++ (us.map i6 ++ (madeCells #[i6 0] us.length).toList.drop (0 + (us.map i6).length)) = us.map i6 := splice_all (by simp [madeCells])
  have hbb := below_setRow (B := w.heap.size) (g := w.heap.size) hb0 (Nat.le_refl _) ((madeCells #[i6 0] us.length).toList.take 0 ++ (us.map i6 ++ (madeCells #[i6 0] us.length).toList.drop (0 + (us.map i6).length))).toArray
  rw [List.append_assoc, hfin] at hcp
  rw [hfin] at hrow hbb
  have hlm : (us.map i6).length = us.length := by simp
  rw [hlm] at hcp
  have hfi : OwnL _ w.heap.size (.slice (some ⟨w.heap.size, 0, none⟩) us.length us.length) us := heap_own hrow (by unfold maxLen; omega) (Nat.le_refl _)
  generalize (w.alloc (.cells (madeCells #[i6 0] us.length) 2)).setRow w.heap.size (us.map i6).toArray = W2 at hcp hbb hfi
  clear hf hv hrow hfin hlay
  have HFI := Lib.hid hfi
  clear hfi hlm
  go_enter Try.func28, Try.ntmps28
  go_wp2_with fail
  go_returns
  exact ⟨rfl, HFI.out, hbb⟩
/-- A row that does not lie in block r. -/
def Apart (r : Nat) (kv : Value) (us : List Int) : Prop := us = [] ∨ ∃ b off n c, kv = .slice (some ⟨b, off, none⟩) n c ∧ b ≠ r
theorem apart_old {w : World} {kv : Value} {us : List Int} {r : Nat} (h : IsI w kv us) (hr : w.heap.size ≤ r) : Apart r kv us := by
  rcases h with ⟨_, _, _, h1⟩ | ⟨b, off, cap, rfl, h1, h2, h3, h4, h5⟩
  · exact Or.inl h1
  · exact Or.inr ⟨b, off, _, _, rfl, by omega⟩
theorem IsI.setA {w : World} {kv : Value} {us : List Int} {r : Nat} (h : IsI w kv us) (ha : Apart r kv us) (o : Nat) (u : Value) : IsI (w.setCell ⟨r, o, none⟩ u) kv us := by
  rcases ha with rfl | ⟨b, off, n, c, rfl, hne⟩
  · rcases h with h | ⟨b, off, cap, rfl, h1, _⟩
    · exact Or.inl h
    · simp at h1
  · exact isI_set h (Ne.symm hne)
def NewAt (w : World) (v : Value) : Prop := ∃ g m cp, v = .slice (some ⟨g, 0, none⟩) m cp ∧ w.heap.size ≤ g
abbrev tV (s t : Int) (dv : Value) : Value := .agg #[i6 s, i6 t, dv]
set_option maxRecDepth 100000 in
set_option maxHeartbeats 4000000 in
theorem whole_order (s tt : Int) (ka : Option Addr) (kn kc : Nat) (a : Bool) (t : Int) (pa : Option Addr) (pn pc : Nat) (l : Bool) (w : World) (hs : s ≠ 0) :
    Calls Try.prog 36 #[tV s tt (.slice ka kn kc), pV a t (.slice pa pn pc) l] w fun e w' => e = .returned (.tuple #[tV s tt (.slice ka kn kc), i6 8]) ∧ Below w.heap.size w w' := by
  go_enter Try.func36, Try.ntmps36
  go_upto_region 1 with fail
  refine code_world (fun W => Below w.heap.size w W ∧ Blk W w.heap.size [i6 s, i6 tt, .slice ka kn kc] ∧ Blk W (w.heap.size + 1) [.bool a, i6 t, .slice pa pn pc, .bool l] ∧ Blk W (w.heap.size + 1 + 1) [i6 0, i6 0, .slice none 0 0]) ⟨by (repeat' (first | with_reducible exact Below.refl _ _ | with_reducible assumption | with_reducible refine q_alloc ?_ _ | with_reducible refine q_drew ?_ | with_reducible refine q_drewN _ ?_ | with_reducible refine q_setCell ?_ ?_ _ | (left; simp; done) | (right; simp; done) | (right; dsimp only; omega) | (left; dsimp only; omega))), ((Blk.new rfl).alloc _).alloc _, (blk_new1 rfl).alloc _, blk_new2 rfl⟩ ?_
  intro W1 ⟨hq1, b1, b2, b3⟩
  have d0 := b1.cell 0 rfl
  have d1 := b1.cell 1 rfl
  have d2 := b1.cell 2 rfl
  have p0 := b2.cell 0 rfl
  have p1 := b2.cell 1 rfl
  have p2 := b2.cell 2 rfl
  have p3 := b2.cell 3 rfl
  have e0 := b3.cell 0 rfl
  have e1 := b3.cell 1 rfl
  have e2 := b3.cell 2 rfl
  have f0 := b3.froz 0 rfl
  have f1 := b3.froz 1 rfl
  have f2 := b3.froz 2 rfl
  have z3 := b3.lt
  have hs' : (s != 0) = true := by simpa using hs
  go_wp2_with fail
  refine body_world (fun W => Below w.heap.size w W ∧ Blk W (w.heap.size + 1 + 1) [i6 s, i6 tt, .slice ka kn kc]) ⟨by (repeat' (first | with_reducible exact Below.refl _ _ | with_reducible assumption | with_reducible refine q_alloc ?_ _ | with_reducible refine q_drew ?_ | with_reducible refine q_drewN _ ?_ | with_reducible refine q_setCell ?_ ?_ _ | (left; simp; done) | (right; simp; done) | (right; dsimp only; omega) | (left; dsimp only; omega))), ((b3.set 0 _ (by simp) rfl).set 1 _ (by simp) rfl).set 2 _ (by simp) rfl⟩ ?_
  intro W9 ⟨hq9, b9⟩
  clear e0 e1 e2 f0 f1 f2
  have e0 := b9.cell 0 rfl
  have e1 := b9.cell 1 rfl
  have e2 := b9.cell 2 rfl
  exact bodyPost_ret (v := .tuple #[tV s tt (.slice ka kn kc), i6 8]) (by simp [results, Try.results36, go_sem, e0, e1, e2]) rfl ⟨rfl, hq9⟩
set_option maxRecDepth 100000 in
set_option maxHeartbeats 4000000 in
theorem announced_order (s tt : Int) (ka : Option Addr) (kn kc : Nat) (a : Bool) (t : Int) (pa : Option Addr) (pn pc : Nat) (l : Bool) (w : World) (hs : s ≠ 0) :
    Calls Try.prog 38 #[tV s tt (.slice ka kn kc), pV a t (.slice pa pn pc) l] w fun e w' => e = .returned (.tuple #[tV s tt (.slice ka kn kc), i6 8]) ∧ Below w.heap.size w w' := by
  go_enter Try.func38, Try.ntmps38
  go_upto_region 1 with fail
  refine code_world (fun W => Below w.heap.size w W ∧ Blk W w.heap.size [i6 s, i6 tt, .slice ka kn kc] ∧ Blk W (w.heap.size + 1) [.bool a, i6 t, .slice pa pn pc, .bool l] ∧ Blk W (w.heap.size + 1 + 1) [i6 0, i6 0, .slice none 0 0]) ⟨by (repeat' (first | with_reducible exact Below.refl _ _ | with_reducible assumption | with_reducible refine q_alloc ?_ _ | with_reducible refine q_drew ?_ | with_reducible refine q_drewN _ ?_ | with_reducible refine q_setCell ?_ ?_ _ | (left; simp; done) | (right; simp; done) | (right; dsimp only; omega) | (left; dsimp only; omega))), ((Blk.new rfl).alloc _).alloc _, (blk_new1 rfl).alloc _, blk_new2 rfl⟩ ?_
  intro W1 ⟨hq1, b1, b2, b3⟩
  have d0 := b1.cell 0 rfl
  have d1 := b1.cell 1 rfl
  have d2 := b1.cell 2 rfl
  have p0 := b2.cell 0 rfl
  have p1 := b2.cell 1 rfl
  have p2 := b2.cell 2 rfl
  have p3 := b2.cell 3 rfl
  have e0 := b3.cell 0 rfl
  have e1 := b3.cell 1 rfl
  have e2 := b3.cell 2 rfl
  have f0 := b3.froz 0 rfl
  have f1 := b3.froz 1 rfl
  have f2 := b3.froz 2 rfl
  have z3 := b3.lt
  have hs' : (s != 0) = true := by simpa using hs
  go_wp2_with fail
  refine body_world (fun W => Below w.heap.size w W ∧ Blk W (w.heap.size + 1 + 1) [i6 s, i6 tt, .slice ka kn kc]) ⟨by (repeat' (first | with_reducible exact Below.refl _ _ | with_reducible assumption | with_reducible refine q_alloc ?_ _ | with_reducible refine q_drew ?_ | with_reducible refine q_drewN _ ?_ | with_reducible refine q_setCell ?_ ?_ _ | (left; simp; done) | (right; simp; done) | (right; dsimp only; omega) | (left; dsimp only; omega))), ((b3.set 0 _ (by simp) rfl).set 1 _ (by simp) rfl).set 2 _ (by simp) rfl⟩ ?_
  intro W9 ⟨hq9, b9⟩
  clear e0 e1 e2 f0 f1 f2
  have e0 := b9.cell 0 rfl
  have e1 := b9.cell 1 rfl
  have e2 := b9.cell 2 rfl
  exact bodyPost_ret (v := .tuple #[tV s tt (.slice ka kn kc), i6 8]) (by simp [results, Try.results38, go_sem, e0, e1, e2]) rfl ⟨rfl, hq9⟩
set_option maxRecDepth 100000 in
set_option maxHeartbeats 4000000 in
theorem part_order (s tt : Int) (ka : Option Addr) (kn kc : Nat) (a : Bool) (t : Int) (pa : Option Addr) (pn pc : Nat) (l : Bool) (w : World) (hs : s ≠ 1) :
    Calls Try.prog 40 #[tV s tt (.slice ka kn kc), pV a t (.slice pa pn pc) l] w fun e w' => e = .returned (.tuple #[tV s tt (.slice ka kn kc), i6 8]) ∧ Below w.heap.size w w' := by
  go_enter Try.func40, Try.ntmps40
  go_upto_region 1 with fail
  refine code_world (fun W => Below w.heap.size w W ∧ Blk W w.heap.size [i6 s, i6 tt, .slice ka kn kc] ∧ Blk W (w.heap.size + 1) [.bool a, i6 t, .slice pa pn pc, .bool l] ∧ Blk W (w.heap.size + 1 + 1) [i6 0, i6 0, .slice none 0 0]) ⟨by (repeat' (first | with_reducible exact Below.refl _ _ | with_reducible assumption | with_reducible refine q_alloc ?_ _ | with_reducible refine q_drew ?_ | with_reducible refine q_drewN _ ?_ | with_reducible refine q_setCell ?_ ?_ _ | (left; simp; done) | (right; simp; done) | (right; dsimp only; omega) | (left; dsimp only; omega))), ((Blk.new rfl).alloc _).alloc _, (blk_new1 rfl).alloc _, blk_new2 rfl⟩ ?_
  intro W1 ⟨hq1, b1, b2, b3⟩
  have d0 := b1.cell 0 rfl
  have d1 := b1.cell 1 rfl
  have d2 := b1.cell 2 rfl
  have p0 := b2.cell 0 rfl
  have p1 := b2.cell 1 rfl
  have p2 := b2.cell 2 rfl
  have p3 := b2.cell 3 rfl
  have e0 := b3.cell 0 rfl
  have e1 := b3.cell 1 rfl
  have e2 := b3.cell 2 rfl
  have f0 := b3.froz 0 rfl
  have f1 := b3.froz 1 rfl
  have f2 := b3.froz 2 rfl
  have z3 := b3.lt
  have hs' : (s != 1) = true := by simpa using hs
  go_wp2_with fail
  refine body_world (fun W => Below w.heap.size w W ∧ Blk W (w.heap.size + 1 + 1) [i6 s, i6 tt, .slice ka kn kc]) ⟨by (repeat' (first | with_reducible exact Below.refl _ _ | with_reducible assumption | with_reducible refine q_alloc ?_ _ | with_reducible refine q_drew ?_ | with_reducible refine q_drewN _ ?_ | with_reducible refine q_setCell ?_ ?_ _ | (left; simp; done) | (right; simp; done) | (right; dsimp only; omega) | (left; dsimp only; omega))), ((b3.set 0 _ (by simp) rfl).set 1 _ (by simp) rfl).set 2 _ (by simp) rfl⟩ ?_
  intro W9 ⟨hq9, b9⟩
  clear e0 e1 e2 f0 f1 f2
  have e0 := b9.cell 0 rfl
  have e1 := b9.cell 1 rfl
  have e2 := b9.cell 2 rfl
  exact bodyPost_ret (v := .tuple #[tV s tt (.slice ka kn kc), i6 8]) (by simp [results, Try.results40, go_sem, e0, e1, e2]) rfl ⟨rfl, hq9⟩
set_option maxRecDepth 100000 in
set_option maxHeartbeats 4000000 in
theorem end_order (s tt : Int) (ka : Option Addr) (kn kc : Nat) (a : Bool) (t : Int) (pa : Option Addr) (pn pc : Nat) (l : Bool) (w : World) (hs : s ≠ 1) :
    Calls Try.prog 42 #[tV s tt (.slice ka kn kc), pV a t (.slice pa pn pc) l] w fun e w' => e = .returned (.tuple #[tV s tt (.slice ka kn kc), i6 8]) ∧ Below w.heap.size w w' := by
  go_enter Try.func42, Try.ntmps42
  go_upto_region 1 with fail
  refine code_world (fun W => Below w.heap.size w W ∧ Blk W w.heap.size [i6 s, i6 tt, .slice ka kn kc] ∧ Blk W (w.heap.size + 1) [.bool a, i6 t, .slice pa pn pc, .bool l] ∧ Blk W (w.heap.size + 1 + 1) [i6 0, i6 0, .slice none 0 0]) ⟨by (repeat' (first | with_reducible exact Below.refl _ _ | with_reducible assumption | with_reducible refine q_alloc ?_ _ | with_reducible refine q_drew ?_ | with_reducible refine q_drewN _ ?_ | with_reducible refine q_setCell ?_ ?_ _ | (left; simp; done) | (right; simp; done) | (right; dsimp only; omega) | (left; dsimp only; omega))), ((Blk.new rfl).alloc _).alloc _, (blk_new1 rfl).alloc _, blk_new2 rfl⟩ ?_
  intro W1 ⟨hq1, b1, b2, b3⟩
  have d0 := b1.cell 0 rfl
  have d1 := b1.cell 1 rfl
  have d2 := b1.cell 2 rfl
  have p0 := b2.cell 0 rfl
  have p1 := b2.cell 1 rfl
  have p2 := b2.cell 2 rfl
  have p3 := b2.cell 3 rfl
  have e0 := b3.cell 0 rfl
  have e1 := b3.cell 1 rfl
  have e2 := b3.cell 2 rfl
  have f0 := b3.froz 0 rfl
  have f1 := b3.froz 1 rfl
  have f2 := b3.froz 2 rfl
  have z3 := b3.lt
  have hs' : (s != 1) = true := by simpa using hs
  go_wp2_with fail
  refine body_world (fun W => Below w.heap.size w W ∧ Blk W (w.heap.size + 1 + 1) [i6 s, i6 tt, .slice ka kn kc]) ⟨by (repeat' (first | with_reducible exact Below.refl _ _ | with_reducible assumption | with_reducible refine q_alloc ?_ _ | with_reducible refine q_drew ?_ | with_reducible refine q_drewN _ ?_ | with_reducible refine q_setCell ?_ ?_ _ | (left; simp; done) | (right; simp; done) | (right; dsimp only; omega) | (left; dsimp only; omega))), ((b3.set 0 _ (by simp) rfl).set 1 _ (by simp) rfl).set 2 _ (by simp) rfl⟩ ?_
  intro W9 ⟨hq9, b9⟩
  clear e0 e1 e2 f0 f1 f2
  have e0 := b9.cell 0 rfl
  have e1 := b9.cell 1 rfl
  have e2 := b9.cell 2 rfl
  exact bodyPost_ret (v := .tuple #[tV s tt (.slice ka kn kc), i6 8]) (by simp [results, Try.results42, go_sem, e0, e1, e2]) rfl ⟨rfl, hq9⟩
set_option maxRecDepth 100000 in
set_option maxHeartbeats 4000000 in
theorem announced_ok (s tt : Int) (ka : Option Addr) (kn kc : Nat) (a : Bool) (t : Int) (pa : Option Addr) (pn pc : Nat) (l : Bool) (w : World) (hs : s = 0) :
    Calls Try.prog 38 #[tV s tt (.slice ka kn kc), pV a t (.slice pa pn pc) l] w fun e w' => e = .returned (.tuple #[tV 1 t (.slice none 0 0), i6 0]) ∧ Below w.heap.size w w' := by
  subst hs
  go_enter Try.func38, Try.ntmps38
  go_upto_region 1 with fail
  refine code_world (fun W => Below w.heap.size w W ∧ Blk W w.heap.size [i6 0, i6 tt, .slice ka kn kc] ∧ Blk W (w.heap.size + 1) [.bool a, i6 t, .slice pa pn pc, .bool l] ∧ Blk W (w.heap.size + 1 + 1) [i6 0, i6 0, .slice none 0 0]) ⟨by (repeat' (first | with_reducible exact Below.refl _ _ | with_reducible assumption | with_reducible refine q_alloc ?_ _ | with_reducible refine q_drew ?_ | with_reducible refine q_drewN _ ?_ | with_reducible refine q_setCell ?_ ?_ _ | (left; simp; done) | (right; simp; done) | (right; dsimp only; omega) | (left; dsimp only; omega))), ((Blk.new rfl).alloc _).alloc _, (blk_new1 rfl).alloc _, blk_new2 rfl⟩ ?_
  intro W1 ⟨hq1, b1, b2, b3⟩
  have d0 := b1.cell 0 rfl
  have d1 := b1.cell 1 rfl
  have d2 := b1.cell 2 rfl
  have p0 := b2.cell 0 rfl
  have p1 := b2.cell 1 rfl
  have p2 := b2.cell 2 rfl
  have p3 := b2.cell 3 rfl
  have e0 := b3.cell 0 rfl
  have e1 := b3.cell 1 rfl
  have e2 := b3.cell 2 rfl
  have f0 := b3.froz 0 rfl
  have f1 := b3.froz 1 rfl
  have f2 := b3.froz 2 rfl
  have z3 := b3.lt
  go_wp2_with fail
  refine body_world (fun W => Below w.heap.size w W ∧ Blk W (w.heap.size + 1 + 1) [i6 1, i6 t, .slice none 0 0]) ⟨by (repeat' (first | with_reducible exact Below.refl _ _ | with_reducible assumption | with_reducible refine q_alloc ?_ _ | with_reducible refine q_drew ?_ | with_reducible refine q_drewN _ ?_ | with_reducible refine q_setCell ?_ ?_ _ | (left; simp; done) | (right; simp; done) | (right; dsimp only; omega) | (left; dsimp only; omega))), ((b3.set 0 _ (by simp) rfl).set 1 _ (by simp) rfl).set 2 _ (by simp) rfl⟩ ?_
  intro W9 ⟨hq9, b9⟩
  clear e0 e1 e2 f0 f1 f2
  have e0 := b9.cell 0 rfl
  have e1 := b9.cell 1 rfl
  have e2 := b9.cell 2 rfl
  exact bodyPost_ret (v := .tuple #[tV 1 t (.slice none 0 0), i6 0]) (by simp [results, Try.results38, go_sem, e0, e1, e2]) rfl ⟨rfl, hq9⟩
set_option maxRecDepth 100000 in
set_option maxHeartbeats 4000000 in
theorem end_short (s tt : Int) (ka : Option Addr) (kn kc : Nat) (a : Bool) (t : Int) (pa : Option Addr) (pn pc : Nat) (l : Bool) (w : World) (hs : s = 1) (hk : (kn : Int) < tt) :
    Calls Try.prog 42 #[tV s tt (.slice ka kn kc), pV a t (.slice pa pn pc) l] w fun e w' => e = .returned (.tuple #[tV 1 tt (.slice ka kn kc), i6 3]) ∧ Below w.heap.size w w' := by
  subst hs
  go_enter Try.func42, Try.ntmps42
  go_upto_region 1 with fail
  refine code_world (fun W => Below w.heap.size w W ∧ Blk W w.heap.size [i6 1, i6 tt, .slice ka kn kc] ∧ Blk W (w.heap.size + 1) [.bool a, i6 t, .slice pa pn pc, .bool l] ∧ Blk W (w.heap.size + 1 + 1) [i6 0, i6 0, .slice none 0 0]) ⟨by (repeat' (first | with_reducible exact Below.refl _ _ | with_reducible assumption | with_reducible refine q_alloc ?_ _ | with_reducible refine q_drew ?_ | with_reducible refine q_drewN _ ?_ | with_reducible refine q_setCell ?_ ?_ _ | (left; simp; done) | (right; simp; done) | (right; dsimp only; omega) | (left; dsimp only; omega))), ((Blk.new rfl).alloc _).alloc _, (blk_new1 rfl).alloc _, blk_new2 rfl⟩ ?_
  intro W1 ⟨hq1, b1, b2, b3⟩
  have d0 := b1.cell 0 rfl
  have d1 := b1.cell 1 rfl
  have d2 := b1.cell 2 rfl
  have p0 := b2.cell 0 rfl
  have p1 := b2.cell 1 rfl
  have p2 := b2.cell 2 rfl
  have p3 := b2.cell 3 rfl
  have e0 := b3.cell 0 rfl
  have e1 := b3.cell 1 rfl
  have e2 := b3.cell 2 rfl
  have f0 := b3.froz 0 rfl
  have f1 := b3.froz 1 rfl
  have f2 := b3.froz 2 rfl
  have z3 := b3.lt
  go_wp2_with fail
  refine body_world (fun W => Below w.heap.size w W ∧ Blk W (w.heap.size + 1 + 1) [i6 1, i6 tt, .slice ka kn kc]) ⟨by (repeat' (first | with_reducible exact Below.refl _ _ | with_reducible assumption | with_reducible refine q_alloc ?_ _ | with_reducible refine q_drew ?_ | with_reducible refine q_drewN _ ?_ | with_reducible refine q_setCell ?_ ?_ _ | (left; simp; done) | (right; simp; done) | (right; dsimp only; omega) | (left; dsimp only; omega))), ((b3.set 0 _ (by simp) rfl).set 1 _ (by simp) rfl).set 2 _ (by simp) rfl⟩ ?_
  intro W9 ⟨hq9, b9⟩
  clear e0 e1 e2 f0 f1 f2
  have e0 := b9.cell 0 rfl
  have e1 := b9.cell 1 rfl
  have e2 := b9.cell 2 rfl
  exact bodyPost_ret (v := .tuple #[tV 1 tt (.slice ka kn kc), i6 3]) (by simp [results, Try.results42, go_sem, e0, e1, e2]) rfl ⟨rfl, hq9⟩
set_option maxRecDepth 100000 in
set_option maxHeartbeats 4000000 in
theorem end_ok (s tt : Int) (ka : Option Addr) (kn kc : Nat) (a : Bool) (t : Int) (pa : Option Addr) (pn pc : Nat) (l : Bool) (w : World) (hs : s = 1) (hk : ¬ (kn : Int) < tt) :
    Calls Try.prog 42 #[tV s tt (.slice ka kn kc), pV a t (.slice pa pn pc) l] w fun e w' => e = .returned (.tuple #[tV 2 tt (.slice ka kn kc), i6 0]) ∧ Below w.heap.size w w' := by
  subst hs
  go_enter Try.func42, Try.ntmps42
  go_upto_region 1 with fail
  refine code_world (fun W => Below w.heap.size w W ∧ Blk W w.heap.size [i6 1, i6 tt, .slice ka kn kc] ∧ Blk W (w.heap.size + 1) [.bool a, i6 t, .slice pa pn pc, .bool l] ∧ Blk W (w.heap.size + 1 + 1) [i6 0, i6 0, .slice none 0 0]) ⟨by (repeat' (first | with_reducible exact Below.refl _ _ | with_reducible assumption | with_reducible refine q_alloc ?_ _ | with_reducible refine q_drew ?_ | with_reducible refine q_drewN _ ?_ | with_reducible refine q_setCell ?_ ?_ _ | (left; simp; done) | (right; simp; done) | (right; dsimp only; omega) | (left; dsimp only; omega))), ((Blk.new rfl).alloc _).alloc _, (blk_new1 rfl).alloc _, blk_new2 rfl⟩ ?_
  intro W1 ⟨hq1, b1, b2, b3⟩
  have d0 := b1.cell 0 rfl
  have d1 := b1.cell 1 rfl
  have d2 := b1.cell 2 rfl
  have p0 := b2.cell 0 rfl
  have p1 := b2.cell 1 rfl
  have p2 := b2.cell 2 rfl
  have p3 := b2.cell 3 rfl
  have e0 := b3.cell 0 rfl
  have e1 := b3.cell 1 rfl
  have e2 := b3.cell 2 rfl
  have f0 := b3.froz 0 rfl
  have f1 := b3.froz 1 rfl
  have f2 := b3.froz 2 rfl
  have z3 := b3.lt
  have g0 := b1.froz 0 rfl
  have x1 := (b1.set 0 (i6 2) (by simp) rfl).cell 1 rfl
  have x2 := (b1.set 0 (i6 2) (by simp) rfl).cell 2 rfl
  go_wp2_with fail
  refine body_world (fun W => Below w.heap.size w W ∧ Blk W (w.heap.size + 1 + 1) [i6 2, i6 tt, .slice ka kn kc]) ⟨by (repeat' (first | with_reducible exact Below.refl _ _ | with_reducible assumption | with_reducible refine q_alloc ?_ _ | with_reducible refine q_drew ?_ | with_reducible refine q_drewN _ ?_ | with_reducible refine q_setCell ?_ ?_ _ | (left; simp; done) | (right; simp; done) | (right; dsimp only; omega) | (left; dsimp only; omega))), (((b3.set_far (p := ⟨w.heap.size, 0, none⟩) (by simp <;> omega) _).set 0 _ (by simp) rfl).set 1 _ (by simp) rfl).set 2 _ (by simp) rfl⟩ ?_
  intro W9 ⟨hq9, b9⟩
  clear e0 e1 e2 f0 f1 f2
  have e0 := b9.cell 0 rfl
  have e1 := b9.cell 1 rfl
  have e2 := b9.cell 2 rfl
  exact bodyPost_ret (v := .tuple #[tV 2 tt (.slice ka kn kc), i6 0]) (by simp [results, Try.results42, go_sem, e0, e1, e2]) rfl ⟨rfl, hq9⟩
set_option maxRecDepth 100000 in
set_option maxHeartbeats 4000000 in
theorem part_long (s tt : Int) (ka : Option Addr) (kn kc : Nat) (a : Bool) (t : Int) (pa : Option Addr) (pn pc : Nat) (l : Bool) (w : World) (hs : s = 1) (hb1 : kn ≤ 1000000) (hb2 : pn ≤ 1000000) (hk : tt < (kn : Int) + pn) :
    Calls Try.prog 40 #[tV s tt (.slice ka kn kc), pV a t (.slice pa pn pc) l] w fun e w' => e = .returned (.tuple #[tV 1 tt (.slice ka kn kc), i6 4]) ∧ Below w.heap.size w w' := by
  subst hs
  go_enter Try.func40, Try.ntmps40
  go_upto_region 1 with fail
  refine code_world (fun W => Below w.heap.size w W ∧ Blk W w.heap.size [i6 1, i6 tt, .slice ka kn kc] ∧ Blk W (w.heap.size + 1) [.bool a, i6 t, .slice pa pn pc, .bool l] ∧ Blk W (w.heap.size + 1 + 1) [i6 0, i6 0, .slice none 0 0]) ⟨by (repeat' (first | with_reducible exact Below.refl _ _ | with_reducible assumption | with_reducible refine q_alloc ?_ _ | with_reducible refine q_drew ?_ | with_reducible refine q_drewN _ ?_ | with_reducible refine q_setCell ?_ ?_ _ | (left; simp; done) | (right; simp; done) | (right; dsimp only; omega) | (left; dsimp only; omega))), ((Blk.new rfl).alloc _).alloc _, (blk_new1 rfl).alloc _, blk_new2 rfl⟩ ?_
  intro W1 ⟨hq1, b1, b2, b3⟩
  have d0 := b1.cell 0 rfl
  have d1 := b1.cell 1 rfl
  have d2 := b1.cell 2 rfl
  have p0 := b2.cell 0 rfl
  have p1 := b2.cell 1 rfl
  have p2 := b2.cell 2 rfl
  have p3 := b2.cell 3 rfl
  have e0 := b3.cell 0 rfl
  have e1 := b3.cell 1 rfl
  have e2 := b3.cell 2 rfl
  have f0 := b3.froz 0 rfl
  have f1 := b3.froz 1 rfl
  have f2 := b3.froz 2 rfl
  have z3 := b3.lt
  go_wp2_with fail
  refine body_world (fun W => Below w.heap.size w W ∧ Blk W (w.heap.size + 1 + 1) [i6 1, i6 tt, .slice ka kn kc]) ⟨by (repeat' (first | with_reducible exact Below.refl _ _ | with_reducible assumption | with_reducible refine q_alloc ?_ _ | with_reducible refine q_drew ?_ | with_reducible refine q_drewN _ ?_ | with_reducible refine q_setCell ?_ ?_ _ | (left; simp; done) | (right; simp; done) | (right; dsimp only; omega) | (left; dsimp only; omega))), ((b3.set 0 _ (by simp) rfl).set 1 _ (by simp) rfl).set 2 _ (by simp) rfl⟩ ?_
  intro W9 ⟨hq9, b9⟩
  clear e0 e1 e2 f0 f1 f2
  have e0 := b9.cell 0 rfl
  have e1 := b9.cell 1 rfl
  have e2 := b9.cell 2 rfl
  exact bodyPost_ret (v := .tuple #[tV 1 tt (.slice ka kn kc), i6 4]) (by simp [results, Try.results40, go_sem, e0, e1, e2]) rfl ⟨rfl, hq9⟩
set_option maxRecDepth 100000 in
set_option maxHeartbeats 4000000 in
theorem part_ok (s tt : Int) (ka : Option Addr) (kn kc : Nat) (a : Bool) (t : Int) (pa : Option Addr) (pn pc : Nat) (l : Bool) (w : World) (us ds : List Int) (hs : s = 1) (hku : us.length = kn) (hpd : ds.length = pn) (hk : IsI w (.slice ka kn kc) us) (hp : IsI w (.slice pa pn pc) ds) (h0 : 0 < pn) (hb1 : kn ≤ 1000000) (hb2 : pn ≤ 1000000) (ht : ¬ tt < (kn : Int) + pn) :
    Calls Try.prog 40 #[tV s tt (.slice ka kn kc), pV a t (.slice pa pn pc) l] w fun e w' => ∃ v', e = .returned (.tuple #[tV 1 tt v', i6 0]) ∧ IsI w' v' (us ++ ds) ∧ NewAt w v' ∧ Below w.heap.size w w' := by
  subst hs
  obtain ⟨i0, hi, hz0, hz1, hz2⟩ := info_parts info_i64
  obtain ⟨pb, poff, epa, hpl⟩ : ∃ pb poff, pa = some ⟨pb, poff, none⟩ ∧ LayI w pb poff ds := by
    rcases hp with ⟨_, _, e, h1⟩ | ⟨b, off, cap', e, h1, h2, h3, h4, h5⟩
    · rw [h1] at hpd; simp at hpd; omega
    · simp only [Value.slice.injEq] at e
      exact ⟨b, off, e.1, h5⟩
  subst epa
  have hcs : ∀ j u, (ds.map i6)[j]? = some u → w.cell? ((⟨pb, poff, none⟩ : Addr).add j) = some u := by
    intro j u hj
    rw [List.getElem?_map, Option.map_eq_some_iff] at hj
    obtain ⟨x, hx, rfl⟩ := hj
    rw [addr_add]
    exact hpl j x hx
  have HCS := Lib.hid hcs
  have HON : Hid (∀ u ∈ ds.map i6, u.oneCell' = true) := Lib.hid (by
    intro u hu
    obtain ⟨x, _, rfl⟩ := List.mem_map.1 hu
    rfl)
  have HLM : Hid ((ds.map i6).length = pn * 1) := Lib.hid (by rw [List.length_map]; omega)
  have HLA : Hid ((us ++ ds).length = us.length + pn) := Lib.hid (by rw [List.length_append]; omega)
  have HMA : Hid ((us ++ ds).map i6 = us.map i6 ++ ds.map i6) := Lib.hid (by simp)
  have HK := Lib.hid hk
  have HP := Lib.hid hp
  have hul : us.length ≤ 1000000 := by omega
  have HKU := Lib.hid hku
  have HPD := Lib.hid hpd
  clear hk hp hku hpd hcs hpl
  go_enter Try.func40, Try.ntmps40
  go_upto_region 1 with fail
  refine code_world (fun W => Below w.heap.size w W ∧ Blk W w.heap.size [i6 1, i6 tt, .slice ka kn kc] ∧ Blk W (w.heap.size + 1) [.bool a, i6 t, .slice (some ⟨pb, poff, none⟩) pn pc, .bool l] ∧ Blk W (w.heap.size + 1 + 1) [i6 0, i6 0, .slice none 0 0]) ⟨by (repeat' (first | with_reducible exact Below.refl _ _ | with_reducible assumption | with_reducible refine q_alloc ?_ _ | with_reducible refine q_drew ?_ | with_reducible refine q_drewN _ ?_ | with_reducible refine q_setCell ?_ ?_ _ | (left; simp; done) | (right; simp; done) | (right; dsimp only; omega) | (left; dsimp only; omega))), ((Blk.new rfl).alloc _).alloc _, (blk_new1 rfl).alloc _, blk_new2 rfl⟩ ?_
  intro W1 ⟨hq1, b1, b2, b3⟩
  have d0 := b1.cell 0 rfl
  have d1 := b1.cell 1 rfl
  have d2 := b1.cell 2 rfl
  have p0 := b2.cell 0 rfl
  have p1 := b2.cell 1 rfl
  have p2 := b2.cell 2 rfl
  have p3 := b2.cell 3 rfl
  have e0 := b3.cell 0 rfl
  have e1 := b3.cell 1 rfl
  have e2 := b3.cell 2 rfl
  have f0 := b3.froz 0 rfl
  have f1 := b3.froz 1 rfl
  have f2 := b3.froz 2 rfl
  have z3 := b3.lt
  have HB1 := Lib.hid b1
  have HB3 := Lib.hid b3
  go_upto_region 5 with fail
  go_cut [5] from 23 (fun q wx => q = i6 0 ∧ ∃ g m cp, Blk wx w.heap.size [i6 1, i6 tt, .slice (some ⟨g, 0, none⟩) m cp] ∧ Blk wx (w.heap.size + 1 + 1) [i6 0, i6 0, .slice none 0 0] ∧ m = (us ++ ds).length ∧ W1.heap.size ≤ g ∧ IsI wx (.slice (some ⟨g, 0, none⟩) m cp) (us ++ ds) ∧ Below w.heap.size w wx)
  case first =>
    clear b1 b2 b3 e0 e1 e2 f0 f1 f2 d0 d1 p0 p1 p3
    have hz0' : w.heap.size < W1.heap.size := by omega
    go_region_law (first
      | (refine step_append_own rfl _ _ 22 rfl W1.heap.size 2 i0 (i6 0) 1 8 und_i64s hi hz0 hz1 hz2 rfl (by decide) _ us.length (us.map i6) rfl HKV.out ⟨pb, poff, none⟩ pn pc (ds.map i6) rfl HLM.out (fun j u hj => cell_below (q_step hq1 hq5) (HCS.out j u hj)) HON.out (by unfold maxLen; omega) (by omega) hq5.size ?_; intro vv wv hvv hgr; have hqv : Below W1.heap.size W1 wv := hq5.grown hgr hq5.size (fun j hj => (HKV.out.lt j hj).1); obtain ⟨gg, cc, rfl⟩ := Joins.ownsRow_form hvv (by omega); have hgg := (hvv.lt gg rfl).1; have HVV : Hid (IsI wv (.slice (some ⟨gg, 0, none⟩) (us.length + pn) cc) (us ++ ds)) := Lib.hid (by rw [← HMA.out, ← HLA.out] at hvv; rw [← HLA.out]; exact ownL_is hvv); have b1v := HB1.out.below hqv; have dk2 := b1v.cell 2 rfl; have fk2 := b1v.froz 2 rfl; have zz1 := b1v.lt; have HB1V := Lib.hid b1v; clear hvv hgr b1v)
      | (go_simp; go_at_call 28; refine (copied_own _ us _ ?_ (by omega)).mono ?_; (first | exact HK.out.below (q_step hq1 (by (repeat' (first | with_reducible exact Below.refl _ _ | with_reducible assumption | with_reducible refine q_alloc ?_ _ | with_reducible refine q_drew ?_ | with_reducible refine q_drewN _ ?_ | with_reducible refine q_setCell ?_ ?_ _ | (left; simp; done) | (right; simp; done) | (right; dsimp only; omega) | (left; dsimp only; omega))))) | exact HK.out.below (by (repeat' (first | with_reducible exact Below.refl _ _ | with_reducible assumption | with_reducible refine q_alloc ?_ _ | with_reducible refine q_drew ?_ | with_reducible refine q_drewN _ ?_ | with_reducible refine q_setCell ?_ ?_ _ | (left; simp; done) | (right; simp; done) | (right; dsimp only; omega) | (left; dsimp only; omega))))); rintro e w5 ⟨rfl, hkv0, hb⟩; have hb' : Below W1.heap.size W1 w5 := (by first | exact hb | exact below_drew hb | exact q_step (by (repeat' (first | with_reducible exact Below.refl _ _ | with_reducible assumption | with_reducible refine q_alloc ?_ _ | with_reducible refine q_drew ?_ | with_reducible refine q_drewN _ ?_ | with_reducible refine q_setCell ?_ ?_ _ | (left; simp; done) | (right; simp; done) | (right; dsimp only; omega) | (left; dsimp only; omega)))) hb); have HKV := Lib.hid (Joins.ownsRow_le (base' := W1.heap.size) hkv0 (by first | exact Nat.le_refl _ | simp)); have hq5 := hb'; replace p2 := cell_below hb' p2; clear hb hb' hkv0 d2))
    all_goals (go_wp2_with fail; go_meet; exact ⟨rfl, gg, us.length + pn, cc, HB1V.out.set 2 _ (by simp) rfl, ((HB3.out.below hqv).set_far (by dsimp only; omega) _), HLA.out.symm, hgg, isI_set HVV.out (by simp <;> omega), q_setCell (q_step hq1 hqv) (Or.inr (by simp)) _⟩)
  case rest =>
    obtain ⟨rfl, g, m, cp, c1, c3, rfl, hgg, hiv, hq9⟩ := hcut
    obtain ⟨W2, rfl⟩ : ∃ W : World, W = wc := ⟨_, rfl⟩
    clear d0 d1 d2 p0 p1 p2 p3 e0 e1 e2 f0 f1 f2 b1 b2 b3 HB1 HB3
    have d0 := c1.cell 0 rfl
    have d1 := c1.cell 1 rfl
    have d2 := c1.cell 2 rfl
    have e0 := c3.cell 0 rfl
    have e1 := c3.cell 1 rfl
    have e2 := c3.cell 2 rfl
    have f0 := c3.froz 0 rfl
    have f1 := c3.froz 1 rfl
    have f2 := c3.froz 2 rfl
    have HI := Lib.hid hiv
    have HC3 := Lib.hid c3
    have hgz : w.heap.size + 1 + 1 ≠ g := by omega
    obtain ⟨M, hM⟩ : ∃ M, (us ++ ds).length = M := ⟨_, rfl⟩
    rw [hM] at HI d2
    clear hiv c1 c3 z3 hM
    go_wp2_with fail
    refine body_world (fun W => Below w.heap.size w W ∧ Blk W (w.heap.size + 1 + 1) [i6 1, i6 tt, .slice (some ⟨g, 0, none⟩) M cp] ∧ IsI W (.slice (some ⟨g, 0, none⟩) M cp) (us ++ ds)) ⟨by (repeat' (first | with_reducible exact Below.refl _ _ | with_reducible assumption | with_reducible refine q_alloc ?_ _ | with_reducible refine q_drew ?_ | with_reducible refine q_drewN _ ?_ | with_reducible refine q_setCell ?_ ?_ _ | (left; simp; done) | (right; simp; done) | (right; dsimp only; omega) | (left; dsimp only; omega))), ((HC3.out.set 0 _ (by simp) rfl).set 1 _ (by simp) rfl).set 2 _ (by simp) rfl, isI_set (isI_set (isI_set HI.out (by dsimp only; exact hgz)) (by dsimp only; exact hgz)) (by dsimp only; exact hgz)⟩ ?_
    intro W9 ⟨hq10, b9, i9⟩
    clear e0 e1 e2 f0 f1 f2
    have e0 := b9.cell 0 rfl
    have e1 := b9.cell 1 rfl
    have e2 := b9.cell 2 rfl
    exact bodyPost_ret (v := .tuple #[tV 1 tt (.slice (some ⟨g, 0, none⟩) M cp), i6 0]) (by simp [results, Try.results40, go_sem, e0, e1, e2]) rfl ⟨_, rfl, i9, ⟨g, M, cp, rfl, by have := hq1.size; omega⟩, hq10⟩
set_option maxRecDepth 100000 in
set_option maxHeartbeats 4000000 in
theorem whole_ok (s tt : Int) (ka : Option Addr) (kn kc : Nat) (a : Bool) (t : Int) (pa : Option Addr) (pn pc : Nat) (l : Bool) (w : World) (us : List Int) (hs : s = 0) (hv : IsI w (.slice pa pn pc) us) (hl : us.length ≤ 1000000) :
    Calls Try.prog 36 #[tV s tt (.slice ka kn kc), pV a t (.slice pa pn pc) l] w fun e w' => ∃ v', e = .returned (.tuple #[tV 2 0 v', i6 0]) ∧ IsI w' v' us ∧ NewAt w v' ∧ Below w.heap.size w w' := by
  subst hs
  have HV := Lib.hid hv
  clear hv
  go_enter Try.func36, Try.ntmps36
  go_upto_region 1 with fail
  refine code_world (fun W => Below w.heap.size w W ∧ Blk W w.heap.size [i6 0, i6 tt, .slice ka kn kc] ∧ Blk W (w.heap.size + 1) [.bool a, i6 t, .slice pa pn pc, .bool l] ∧ Blk W (w.heap.size + 1 + 1) [i6 0, i6 0, .slice none 0 0]) ⟨by (repeat' (first | with_reducible exact Below.refl _ _ | with_reducible assumption | with_reducible refine q_alloc ?_ _ | with_reducible refine q_drew ?_ | with_reducible refine q_drewN _ ?_ | with_reducible refine q_setCell ?_ ?_ _ | (left; simp; done) | (right; simp; done) | (right; dsimp only; omega) | (left; dsimp only; omega))), ((Blk.new rfl).alloc _).alloc _, (blk_new1 rfl).alloc _, blk_new2 rfl⟩ ?_
  intro W1 ⟨hq1, b1, b2, b3⟩
  have d0 := b1.cell 0 rfl
  have d1 := b1.cell 1 rfl
  have d2 := b1.cell 2 rfl
  have p0 := b2.cell 0 rfl
  have p1 := b2.cell 1 rfl
  have p2 := b2.cell 2 rfl
  have p3 := b2.cell 3 rfl
  have e0 := b3.cell 0 rfl
  have e1 := b3.cell 1 rfl
  have e2 := b3.cell 2 rfl
  have f0 := b3.froz 0 rfl
  have f1 := b3.froz 1 rfl
  have f2 := b3.froz 2 rfl
  have z3 := b3.lt
  clear d0 d1 d2 p0 p1 p3
  have HB3 := Lib.hid b3
  clear b3
  clear e0 e1 e2 f0 f1 f2
  have d0 := b1.cell 0 rfl
  go_wp2_with fail
  refine (copied_any _ us _ (HV.out.below hq1) hl).mono ?_
  rintro e w2 ⟨rfl, hi2, hb⟩
  have hq2 := q_step hq1 hb
  have b3 := HB3.out.below hb
  have hg : W1.heap.size ≤ W1.heap.size := Nat.le_refl _
  have zz3 := HB3.out.lt
  generalize W1.heap.size = g at hi2 zz3 ⊢
  clear hb d0 p2 b1 b2 hq1 HB3
  have e0 := b3.cell 0 rfl
  have e1 := b3.cell 1 rfl
  have e2 := b3.cell 2 rfl
  have f0 := b3.froz 0 rfl
  have f1 := b3.froz 1 rfl
  have f2 := b3.froz 2 rfl
  have z3' := b3.lt
  have HI := Lib.hid hi2
  clear hi2
  go_wp2_with fail
  refine body_world (fun W => Below w.heap.size w W ∧ Blk W (w.heap.size + 1 + 1) [i6 2, i6 0, .slice (some ⟨g, 0, none⟩) us.length us.length] ∧ IsI W (.slice (some ⟨g, 0, none⟩) us.length us.length) us) ⟨by (repeat' (first | with_reducible exact Below.refl _ _ | with_reducible assumption | with_reducible refine q_alloc ?_ _ | with_reducible refine q_drew ?_ | with_reducible refine q_drewN _ ?_ | with_reducible refine q_setCell ?_ ?_ _ | (left; simp; done) | (right; simp; done) | (right; dsimp only; omega) | (left; dsimp only; omega))), ((b3.set 0 _ (by simp) rfl).set 1 _ (by simp) rfl).set 2 _ (by simp) rfl, isI_set (isI_set (isI_set HI.out (by simp <;> omega)) (by simp <;> omega)) (by simp <;> omega)⟩ ?_
  intro W9 ⟨hq9, b9, i9⟩
  clear e0 e1 e2 f0 f1 f2
  have e0 := b9.cell 0 rfl
  have e1 := b9.cell 1 rfl
  have e2 := b9.cell 2 rfl
  exact bodyPost_ret (v := .tuple #[tV 2 0 (.slice (some ⟨g, 0, none⟩) us.length us.length), i6 0]) (by simp [results, Try.results36, go_sem, e0, e1, e2]) rfl ⟨_, rfl, i9, ⟨g, us.length, us.length, rfl, by omega⟩, hq9⟩
end Go.Proofs.Ytlaejolgjchfcaa
