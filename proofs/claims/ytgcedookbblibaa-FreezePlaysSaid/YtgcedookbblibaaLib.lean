/- Small laws of our own: a whole array read out of a variable of which the cells are known; nothing of any program. -/
import Derived.WalkKit
import Derived.Deep.QuietTactic
namespace Go.Proofs.Ytgcedookbblibaa
open Go Go.RowKit

theorem ret_bool {a b : Bool} (h : a = b) : Ending.returned (.bool a) = .returned (.bool b) := by rw [h]
theorem ret_int {k : IntKind} {a b : Int} (h : a = b) : Ending.returned (.int k a) = .returned (.int k b) := by rw [h]

section
variable {P : Program}

/-- The cells of a variable, one by one. -/
structure RowAt (g : Nat) (cs : List Value) (w : World) : Prop where
  lt : g < w.heap.size
  at_ : ∀ j v, cs[j]? = some v → w.cell? ⟨g, j, none⟩ = some v

theorem RowAt.mk' {g : Nat} {cs : List Value} {w : World} (hne : cs ≠ []) (h : ∀ j v, cs[j]? = some v → w.cell? ⟨g, j, none⟩ = some v) : RowAt g cs w := by
  refine ⟨?_, h⟩
  cases cs with
  | nil => exact absurd rfl hne
  | cons v _ => exact block_lt_of_cell (h 0 v rfl)

theorem RowAt.below {g : Nat} {cs : List Value} {w w' : World} (h : RowAt g cs w) (hb : Below w.heap.size w w') : RowAt g cs w' :=
  ⟨Nat.lt_of_lt_of_le h.lt hb.size, fun j v hj => (hb.cell (p := ⟨g, j, none⟩) h.lt).trans (h.at_ j v hj)⟩
theorem RowAt.alloc {g : Nat} {cs : List Value} {w : World} (h : RowAt g cs w) (o : Obj) : RowAt g cs (w.alloc o) :=
  h.below ((Below.refl _ _).alloc (Nat.le_refl _) o)
theorem RowAt.drew {g : Nat} {cs : List Value} {w : World} (h : RowAt g cs w) : RowAt g cs w.drew :=
  h.below (Below.refl _ _).drew
theorem RowAt.setCell {g : Nat} {cs : List Value} {w : World} (h : RowAt g cs w) {p : Addr} (hp : p.block ≠ g) (u : Value) : RowAt g cs (w.setCell p u) :=
  ⟨by have := h.lt; simpa [World.setCell] using this, fun j v hj => (World.cell?_of_block (w := w) (Below.heap_setCell _ _ _ _ (Ne.symm hp))).trans (h.at_ j v hj)⟩

theorem run_loadVar_cells (w : World) (g : Nat) (ty : TypeId) (cs : List Value) (d : TypeDesc) (h : RowAt g cs w)
    (hu : P.underlying ty = some d) (hd : (match d with | .struct _ | .array _ _ => true | _ => false) = true) (hi : (P.info? ty).map (·.size) = some cs.length) :
    (loadVar ty ⟨g, 0, none⟩).run P w = .ok (.agg cs.toArray) w := by
  have hl : (loadCells ⟨g, 0, none⟩ cs.length).run P w = .ok cs.toArray w :=
    run_loadCells_list (P := P) w ⟨g, 0, none⟩ cs (fun j v hv => by
      have hadd : (⟨g, 0, none⟩ : Addr).add j = ⟨g, j, none⟩ := by unfold Addr.add; split <;> simp_all
      rw [hadd]
      exact h.at_ j v hv)
  cases hq : P.info? ty with
  | none => simp [hq] at hi
  | some i =>
    have hs : i.size = cs.length := by simpa [hq] using hi
    have hagg : (isAgg ty).run P w = .ok true w := by
      unfold isAgg
      rw [Sem.run_bind, run_underlying hu w]
      cases d <;> simp_all
    simp [loadVar, Sem.run_bind, hagg, sizeOf, typeInfo, hq, hs, hl]

theorem wp_load_cells {o : Oper} {a : Act} {w : World} {K : Act → World → Prop} {Q : Exit → Act → World → Prop} (ty : TypeId) (x : Operand) (ho : o.op = .load ty x)
    (g : Nat) (hx : a.eval x = .pointer (some ⟨g, 0, none⟩)) (cs : List Value) (d : TypeDesc) (hg : RowAt g cs w)
    (hu : P.underlying ty = some d) (hd : (match d with | .struct _ | .array _ _ => true | _ => false) = true) (hi : (P.info? ty).map (·.size) = some cs.length)
    (h : K (a.put o.dst (.agg cs.toArray)) w) : o.wp P a w K Q := by
  unfold Oper.wp execOp
  simp only [ho, hx, Instr.loadAt, Instr.sureAddr, Sem.run_bind, Sem.run_pure, Result.andThen_ok, run_loadVar_cells w g ty cs d hg hu hd hi]
  exact h

theorem wpList_load_cells {ops : Array Oper} {rest : List Oper} {o : Oper} {a : Act} {w : World} {Q : Exit → Act → World → Prop} (hgd : o.guard = none) (ty : TypeId) (x : Operand) (ho : o.op = .load ty x)
    (g : Nat) (hx : a.eval x = .pointer (some ⟨g, 0, none⟩)) (cs : List Value) (d : TypeDesc) (hg : RowAt g cs w)
    (hu : P.underlying ty = some d) (hd : (match d with | .struct _ | .array _ _ => true | _ => false) = true) (hi : (P.info? ty).map (·.size) = some cs.length)
    (h : wpList P ops Q rest (a.put o.dst (.agg cs.toArray)) w) : wpList P ops Q (o :: rest) a w :=
  wpList_plain hgd fun _ hK => wp_load_cells ty x ho g hx cs d hg hu hd hi (hK _ _ h)
theorem wp_eqAgg {o : Oper} {a : Act} {w : World} {K : Act → World → Prop} {Q : Exit → Act → World → Prop} (op : BinOp) (t : TypeId) (x y : Operand) (ty : TypeId) (ho : o.op = .binOp op t x y ty)
    (xs ys : Array Value) (hx : a.eval x = .agg xs) (hy : a.eval y = .agg ys) (hm : P.eqGuardType P.depth t = false) {v : Value}
    (hrun : (binOp op t (.agg xs) (.agg ys)).run P w = .ok v w) (h : K (a.put o.dst v) w) : o.wp P a w K Q := by
  unfold Oper.wp execOp
  simp only [ho, hx, hy, Sem.run_bind, Sem.run_pure, Result.andThen_ok, run_eqGuard_agg w op t x y xs ys hm, hrun]
  exact h

/-- Two structs (or arrays), held against each other by an equation on the operation's run. -/
theorem wpList_eqAgg {ops : Array Oper} {rest : List Oper} {o : Oper} {a : Act} {w : World} {Q : Exit → Act → World → Prop} (hgd : o.guard = none) (op : BinOp) (t : TypeId) (x y : Operand) (ty : TypeId) (ho : o.op = .binOp op t x y ty)
    (xs ys : Array Value) (hx : a.eval x = .agg xs) (hy : a.eval y = .agg ys) (hm : P.eqGuardType P.depth t = false) {v : Value}
    (hrun : (binOp op t (.agg xs) (.agg ys)).run P w = .ok v w) (h : wpList P ops Q rest (a.put o.dst v) w) : wpList P ops Q (o :: rest) a w :=
  wpList_plain hgd fun _ hK => wp_eqAgg op t x y ty ho xs ys hx hy hm hrun (hK _ _ h)

/-- Guards: the walk stands at an operation of just this make. -/
theorem at_bin (op : BinOp) (t : TypeId) {ops : Array Oper} {rest : List Oper} {d : Option Tmp} {x y : Operand} {ty t' : TypeId} {p : String} {af : Array Edge} {a : Act} {w : World} {Q : Exit → Act → World → Prop}
    (h : wpList P ops Q ({ dst := d, op := .binOp op t x y ty, type := t', pos := p, after := af, guard := none } :: rest) a w) : wpList P ops Q ({ dst := d, op := .binOp op t x y ty, type := t', pos := p, after := af, guard := none } :: rest) a w := h
theorem at_load (t : TypeId) (x : Operand) {ops : Array Oper} {rest : List Oper} {d : Option Tmp} {t' : TypeId} {p : String} {af : Array Edge} {a : Act} {w : World} {Q : Exit → Act → World → Prop}
    (h : wpList P ops Q ({ dst := d, op := .load t x, type := t', pos := p, after := af, guard := none } :: rest) a w) : wpList P ops Q ({ dst := d, op := .load t x, type := t', pos := p, after := af, guard := none } :: rest) a w := h

/-- A contract that leaves the world alone, met inside a region that draws its order. -/
theorem quiet_eq {f : FuncId} {args : Array Value} {w : World} {n : Nat} {v : Value}
    (h : Calls P f args (w.drewN n) fun e w' => e = .returned v ∧ w.drewN n = w') : Calls P f args (w.drewN n) fun e w'' => e = .returned v ∧ ∃ m, w'' = w.drewN m :=
  h.mono fun _ _ ⟨he, hm⟩ => ⟨he, n, hm.symm⟩
/-- What is below the heap of a, through the steps of a walk. -/
theorem q_step {a b c : World} (h : Below a.heap.size a b) (k : Below b.heap.size b c) : Below a.heap.size a c := h.trans (k.mono h.size)
theorem q_alloc {a w : World} (h : Below a.heap.size a w) (o : Obj) : Below a.heap.size a (w.alloc o) := h.alloc h.size o
theorem q_drew {a w : World} (h : Below a.heap.size a w) : Below a.heap.size a w.drew := h.drew
theorem q_drewN {a w : World} (n : Nat) (h : Below a.heap.size a w) : Below a.heap.size a (w.drewN n) := ⟨h.os, h.tape, h.output, h.size, h.block⟩
theorem q_setCell {a w : World} (h : Below a.heap.size a w) {p : Addr} (hp : w.heap.size ≤ p.block ∨ a.heap.size ≤ p.block) (u : Value) : Below a.heap.size a (w.setCell p u) :=
  h.setCell (hp.elim (Nat.le_trans h.size) id) u
/-- What a walk reads of old blocks behind a call: two rules, and that no block has gone. -/
theorem q_cells {W w1 : World} (hb : Below W.heap.size W w1) : (∀ b o, b < W.heap.size → w1.cell? ⟨b, o, none⟩ = W.cell? ⟨b, o, none⟩) ∧ (∀ b o, b < W.heap.size → w1.frozen? ⟨b, o, none⟩ = W.frozen? ⟨b, o, none⟩) ∧ W.heap.size ≤ w1.heap.size :=
  ⟨fun b _ h => hb.cell (p := ⟨b, _, none⟩) h, fun b _ h => hb.frozen (p := ⟨b, _, none⟩) h, hb.size⟩
theorem cell_old {w : World} {o : Obj} {p : Addr} {v : Value} (h : w.cell? p = some v) : (w.alloc o).cell? p = some v :=
  (((Below.refl w.heap.size w).alloc (Nat.le_refl _) o).cell (block_lt_of_cell h)).trans h
theorem frozen_old {w : World} {o : Obj} {p : Addr} {v : Value} (h : w.cell? p = some v) (hf : w.frozen? p = false) : (w.alloc o).frozen? p = false :=
  (((Below.refl w.heap.size w).alloc (Nat.le_refl _) o).frozen (block_lt_of_cell h)).trans hf
theorem cell_below {w w1 : World} {p : Addr} {v : Value} (hb : Below w.heap.size w w1) (h : w.cell? p = some v) : w1.cell? p = some v := (hb.cell (block_lt_of_cell h)).trans h
theorem frozen_below {w w1 : World} {p : Addr} {v : Value} (hb : Below w.heap.size w w1) (h : w.cell? p = some v) (hf : w.frozen? p = false) : w1.frozen? p = false := (hb.frozen (block_lt_of_cell h)).trans hf
theorem cell_new {w : World} {cs : Array Value} {t : TypeId} {k : Nat} {v : Value} {fr : Nat × Nat} (h : cs[k]? = some v) : (w.alloc (.cells cs t fr)).cell? ⟨w.heap.size, k, none⟩ = some v := by
  unfold World.cell?
  simp only [heap_alloc_new]
  exact h
theorem cell_new1 {w : World} {o : Obj} {cs : Array Value} {t : TypeId} {k : Nat} {v : Value} {fr : Nat × Nat} (h : cs[k]? = some v) : ((w.alloc o).alloc (.cells cs t fr)).cell? ⟨w.heap.size + 1, k, none⟩ = some v := by
  have := cell_new (w := w.alloc o) (t := t) (fr := fr) h
  rwa [World.size_alloc] at this
theorem below_drewN {B : Nat} {a w : World} (n : Nat) (h : Below B a w) : Below B a (w.drewN n) := ⟨h.os, h.tape, h.output, h.size, h.block⟩
end
end Go.Proofs.Ytgcedookbblibaa
