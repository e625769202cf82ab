/- Blocks of the call's own, as lists of cells; worlds by what is known of them. -/
import Derived.Test.YtgcedookbblibaaLib
import Derived.Test.YtgcedookbblibaaLib2
namespace Go.Proofs.Ytgcedookbblibaa
open Go Go.RowKit

/-- A block's first cells, and that they may be written. -/
def Blk (w : World) (b : Nat) (vs : List Value) : Prop :=
  b < w.heap.size ∧ ∀ j v, vs[j]? = some v → w.cell? ⟨b, j, none⟩ = some v ∧ w.frozen? ⟨b, j, none⟩ = false

theorem Blk.lt {w : World} {b : Nat} {vs : List Value} (h : Blk w b vs) : b < w.heap.size := h.1
theorem Blk.cell {w : World} {b : Nat} {vs : List Value} (h : Blk w b vs) (j : Nat) {v : Value} (hj : vs[j]? = some v) : w.cell? ⟨b, j, none⟩ = some v := (h.2 j v hj).1
theorem Blk.froz {w : World} {b : Nat} {vs : List Value} (h : Blk w b vs) (j : Nat) {v : Value} (hj : vs[j]? = some v) : w.frozen? ⟨b, j, none⟩ = false := (h.2 j v hj).2
theorem Blk.below {w w' : World} {b : Nat} {vs : List Value} (h : Blk w b vs) (hb : Below w.heap.size w w') : Blk w' b vs :=
  ⟨Nat.lt_of_lt_of_le h.1 hb.size, fun j v hj => ⟨(hb.cell (p := ⟨b, j, none⟩) h.1).trans (h.2 j v hj).1, (hb.frozen (p := ⟨b, j, none⟩) h.1).trans (h.2 j v hj).2⟩⟩
theorem Blk.alloc {w : World} {b : Nat} {vs : List Value} (h : Blk w b vs) (o : Obj) : Blk (w.alloc o) b vs := h.below ((Below.refl _ _).alloc (Nat.le_refl _) o)
theorem Blk.drew {w : World} {b : Nat} {vs : List Value} (h : Blk w b vs) : Blk w.drew b vs := h.below (Below.refl _ _).drew
theorem Blk.drewN {w : World} {b : Nat} {vs : List Value} (h : Blk w b vs) (n : Nat) : Blk (w.drewN n) b vs := h.below (below_drewN n (Below.refl _ _))
theorem Blk.new {w : World} {cs : Array Value} {t : TypeId} {vs : List Value} (h : vs = cs.toList) : Blk (w.alloc (.cells cs t)) w.heap.size vs := by
  subst h
  refine ⟨by rw [World.size_alloc]; omega, fun j v hj => ⟨cell_new (by simpa using hj), frozen_new⟩⟩
theorem Blk.set_far {w : World} {b : Nat} {vs : List Value} (h : Blk w b vs) {p : Addr} (hp : p.block ≠ b) (u : Value) : Blk (w.setCell p u) b vs := by
  refine ⟨by have := h.1; simpa [World.setCell] using this, fun j v hj => ⟨?_, ?_⟩⟩
  · exact Go.Proofs.Ytgcedookbblibaa.set_far (h.2 j v hj).1 (by intro e; apply hp; rw [e])
  · have := (h.2 j v hj).2
    simpa using this
theorem Blk.set {w : World} {b : Nat} {vs : List Value} (h : Blk w b vs) (k : Nat) (u : Value) {ws : List Value} (hk : k < vs.length) (hw : ws = vs.set k u) : Blk (w.setCell ⟨b, k, none⟩ u) b ws := by
  subst hw
  refine ⟨by have := h.1; simpa [World.setCell] using this, fun j v hj => ⟨?_, ?_⟩⟩
  · by_cases hjk : j = k
    · subst hjk
      rw [List.getElem?_set_self hk] at hj
      cases hj
      exact set_near (u := vs[j]) (h.2 j _ (List.getElem?_eq_getElem hk)).1
    · rw [List.getElem?_set_ne (fun e => hjk e.symm)] at hj
      exact Go.Proofs.Ytgcedookbblibaa.set_far (h.2 j v hj).1 (off_ne (fun e => hjk e.symm))
  · have hjl : j < vs.length := by
      have := (List.getElem?_eq_some_iff.1 hj).1
      simpa using this
    have := (h.2 j _ (List.getElem?_eq_getElem hjl)).2
    simpa using this
theorem Blk.set4 {w : World} {b : Nat} {u0 u1 u2 u3 v0 v1 v2 v3 : Value} (h : Blk w b [u0, u1, u2, u3]) : Blk (Go.Proofs.Ytgcedookbblibaa.set4 w b v0 v1 v2 v3) b [v0, v1, v2, v3] :=
  (((h.set 0 v0 (by simp) rfl).set 1 v1 (by simp) rfl).set 2 v2 (by simp) rfl).set 3 v3 (by simp) rfl
theorem Blk.far4 {w : World} {b c : Nat} {vs : List Value} {v0 v1 v2 v3 : Value} (h : Blk w c vs) (hne : b ≠ c) : Blk (Go.Proofs.Ytgcedookbblibaa.set4 w b v0 v1 v2 v3) c vs :=
  (((h.set_far (p := ⟨b, 0, none⟩) hne v0).set_far (p := ⟨b, 1, none⟩) hne v1).set_far (p := ⟨b, 2, none⟩) hne v2).set_far (p := ⟨b, 3, none⟩) hne v3
theorem blk_new1 {w : World} {o : Obj} {cs : Array Value} {t : TypeId} {vs : List Value} (h : vs = cs.toList) : Blk ((w.alloc o).alloc (.cells cs t)) (w.heap.size + 1) vs := by
  have := Blk.new (w := w.alloc o) (t := t) h
  rwa [World.size_alloc] at this
theorem blk_new2 {w : World} {o o' : Obj} {cs : Array Value} {t : TypeId} {vs : List Value} (h : vs = cs.toList) : Blk (((w.alloc o).alloc o').alloc (.cells cs t)) (w.heap.size + 1 + 1) vs := by
  have := blk_new1 (w := w.alloc o) (o := o') (t := t) h
  rwa [World.size_alloc] at this
section
variable {P : Program}
theorem code_world {c : Code} {Q : Exit → Act → World → Prop} {a : Act} {w : World} (R : World → Prop) (hR : R w) (h : ∀ W, R W → Code.wp P c Q a W) : Code.wp P c Q a w := h w hR
theorem exit_world {K : Act → World → Prop} {Q : Exit → Act → World → Prop} {e : Exit} {a : Act} {w : World} (R : World → Prop) (hR : R w) (h : ∀ W, R W → Exit.then K Q e a W) : Exit.then K Q e a w := h w hR
theorem body_world {f : Func} {Q : Ending → World → Prop} {e : Exit} {a : Act} {w : World} (R : World → Prop) (hR : R w) (h : ∀ W, R W → bodyPost P f Q e a W) : bodyPost P f Q e a w := h w hR
theorem wpList_world {ops : Array Oper} {rest : List Oper} {a : Act} {Q : Exit → Act → World → Prop} {w : World} (R : World → Prop) (hR : R w) (h : ∀ W, R W → wpList P ops Q rest a W) : wpList P ops Q rest a w := h w hR
theorem calls_world {f : FuncId} {args : Array Value} {Q : Ending → World → Prop} {w : World} (R : World → Prop) (hR : R w) (h : ∀ W, R W → Calls P f args W Q) : Calls P f args w Q := h w hR
end
end Go.Proofs.Ytgcedookbblibaa
