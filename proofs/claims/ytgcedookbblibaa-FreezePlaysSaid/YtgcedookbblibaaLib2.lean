/- Stores into blocks of the call's own, worlds by name. -/
import Derived.Test.YtgcedookbblibaaLib
namespace Go.Proofs.Ytgcedookbblibaa
open Go Go.RowKit
theorem frozen_new {w : World} {cs : Array Value} {t : TypeId} {k : Nat} : (w.alloc (.cells cs t)).frozen? ⟨w.heap.size, k, none⟩ = false :=
  frozen_of_row _ _ _ cs t (heap_alloc_new w _)
theorem frozen_new1 {w : World} {o : Obj} {cs : Array Value} {t : TypeId} {k : Nat} : ((w.alloc o).alloc (.cells cs t)).frozen? ⟨w.heap.size + 1, k, none⟩ = false := by
  have := frozen_new (w := w.alloc o) (cs := cs) (t := t) (k := k)
  rwa [World.size_alloc] at this
theorem cell_new2 {w : World} {o o' : Obj} {cs : Array Value} {t : TypeId} {k : Nat} {v : Value} {fr : Nat × Nat} (h : cs[k]? = some v) : (((w.alloc o).alloc o').alloc (.cells cs t fr)).cell? ⟨w.heap.size + 1 + 1, k, none⟩ = some v := by
  have := cell_new1 (w := w.alloc o) (o := o') (t := t) (fr := fr) h
  rwa [World.size_alloc] at this
theorem frozen_new2 {w : World} {o o' : Obj} {cs : Array Value} {t : TypeId} {k : Nat} : (((w.alloc o).alloc o').alloc (.cells cs t)).frozen? ⟨w.heap.size + 1 + 1, k, none⟩ = false := by
  have := frozen_new1 (w := w.alloc o) (o := o') (cs := cs) (t := t) (k := k)
  rwa [World.size_alloc] at this
def set4 (w : World) (b : Nat) (v0 v1 v2 v3 : Value) : World := (((w.setCell ⟨b, 0, none⟩ v0).setCell ⟨b, 1, none⟩ v1).setCell ⟨b, 2, none⟩ v2).setCell ⟨b, 3, none⟩ v3
section
variable {w : World} {b : Nat} {u0 u1 u2 u3 v0 v1 v2 v3 : Value}
theorem set_far {p q : Addr} {v u : Value} (h : w.cell? q = some v) (hne : p ≠ q) : (w.setCell p u).cell? q = some v := by
  rw [World.cell?_setCell_other]
  · exact h
  · exact hne
theorem set_near {p : Addr} {v u : Value} (h : w.cell? p = some u) : (w.setCell p v).cell? p = some v :=
  World.cell?_setCell_same' w p v (by rw [h]; rfl)
theorem off_ne {b o o' : Nat} (h : o ≠ o') : (⟨b, o, none⟩ : Addr) ≠ ⟨b, o', none⟩ := by intro e; injection e; contradiction
theorem blk_ne {b b' o o' : Nat} (h : b ≠ b') : (⟨b, o, none⟩ : Addr) ≠ ⟨b', o', none⟩ := by intro e; injection e; contradiction
theorem set4_0 (h : w.cell? ⟨b, 0, none⟩ = some u0) : (set4 w b v0 v1 v2 v3).cell? ⟨b, 0, none⟩ = some v0 :=
  set_far (p := ⟨b, 3, none⟩) (set_far (p := ⟨b, 2, none⟩) (set_far (p := ⟨b, 1, none⟩) (set_near (h)) (off_ne (by decide))) (off_ne (by decide))) (off_ne (by decide))
theorem set4_1 (h : w.cell? ⟨b, 1, none⟩ = some u1) : (set4 w b v0 v1 v2 v3).cell? ⟨b, 1, none⟩ = some v1 :=
  set_far (p := ⟨b, 3, none⟩) (set_far (p := ⟨b, 2, none⟩) (set_near (set_far (p := ⟨b, 0, none⟩) (h) (off_ne (by decide)))) (off_ne (by decide))) (off_ne (by decide))
theorem set4_2 (h : w.cell? ⟨b, 2, none⟩ = some u2) : (set4 w b v0 v1 v2 v3).cell? ⟨b, 2, none⟩ = some v2 :=
  set_far (p := ⟨b, 3, none⟩) (set_near (set_far (p := ⟨b, 1, none⟩) (set_far (p := ⟨b, 0, none⟩) (h) (off_ne (by decide))) (off_ne (by decide)))) (off_ne (by decide))
theorem set4_3 (h : w.cell? ⟨b, 3, none⟩ = some u3) : (set4 w b v0 v1 v2 v3).cell? ⟨b, 3, none⟩ = some v3 :=
  set_near (set_far (p := ⟨b, 2, none⟩) (set_far (p := ⟨b, 1, none⟩) (set_far (p := ⟨b, 0, none⟩) (h) (off_ne (by decide))) (off_ne (by decide))) (off_ne (by decide)))
theorem set4_o {b' o : Nat} {u : Value} (h : w.cell? ⟨b', o, none⟩ = some u) (hne : b ≠ b') : (set4 w b v0 v1 v2 v3).cell? ⟨b', o, none⟩ = some u :=
  set_far (set_far (set_far (set_far h (blk_ne hne)) (blk_ne hne)) (blk_ne hne)) (blk_ne hne)
theorem set4_f {q : Addr} (h : w.frozen? q = false) : (set4 w b v0 v1 v2 v3).frozen? q = false := by
  unfold set4; simpa using h
theorem set4_q {a : World} (h : Below a.heap.size a w) (hb : a.heap.size ≤ b) : Below a.heap.size a (set4 w b v0 v1 v2 v3) :=
  q_setCell (q_setCell (q_setCell (q_setCell h (Or.inr hb) _) (Or.inr hb) _) (Or.inr hb) _) (Or.inr hb) _
end
end Go.Proofs.Ytgcedookbblibaa
