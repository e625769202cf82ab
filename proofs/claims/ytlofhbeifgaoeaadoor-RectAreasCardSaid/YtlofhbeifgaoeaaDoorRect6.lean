import Derived.Test.YtlofhbeifgaoeaaDoorRect5
import Derived.Deep.RegionHeld3
namespace Go.Proofs.YtlofhbeifgaoeaaDoor
open Go Go.RowKit

theorem cross_any (x y r h a b c d x' y' r' h' a' b' c' d' p q s t : Int) (w : World) (hs : RowAt 0 noneCells w) (n : Norm x y r h a b c d) (n' : Norm x' y' r' h' a' b' c' d')
    (nb : Betw (max a a') (max b b') (min (a + c) (a' + c')) (min (b + d) (b' + d')) p q s t) :
    Calls Tryd.prog 20 #[rectV x y r h, rectV x' y' r' h'] w fun e w' => e = .returned (rectV p q s t) ∧ Below w.heap.size w w' :=
  cross_of x y r h a b c d x' y' r' h' a' b' c' d' _ _ _ _ p q s t w hs n n' (by omega) (by omega) (by omega) (by omega) nb
theorem norm_idem {x y r h a b c d : Int} (n : Norm x y r h a b c d) : Norm a b c d a b c d := by
  rcases n with ⟨g, rfl, rfl, rfl, rfl⟩ | ⟨_, rfl, rfl, rfl, rfl⟩
  · exact Or.inl ⟨g, rfl, rfl, rfl, rfl⟩
  · exact Or.inr ⟨fun g => by have := g.bounds; omega, rfl, rfl, rfl, rfl⟩

theorem s_step {w w1 w2 : World} {CB : Nat} {a b c d p q s t : Int} (h : Below w.heap.size w w1 ∧ w1.cell? ⟨w.heap.size, 0, none⟩ = some (i6 a) ∧ w1.cell? ⟨w.heap.size, 1, none⟩ = some (i6 b) ∧ w1.cell? ⟨w.heap.size, 2, none⟩ = some (i6 c) ∧ w1.cell? ⟨w.heap.size, 3, none⟩ = some (i6 d) ∧ w1.cell? ⟨CB, 0, none⟩ = some (i6 p) ∧ w1.cell? ⟨CB, 1, none⟩ = some (i6 q) ∧ w1.cell? ⟨CB, 2, none⟩ = some (i6 s) ∧ w1.cell? ⟨CB, 3, none⟩ = some (i6 t)) (hb : Below w1.heap.size w1 w2) : Below w.heap.size w w2 ∧ w2.cell? ⟨w.heap.size, 0, none⟩ = some (i6 a) ∧ w2.cell? ⟨w.heap.size, 1, none⟩ = some (i6 b) ∧ w2.cell? ⟨w.heap.size, 2, none⟩ = some (i6 c) ∧ w2.cell? ⟨w.heap.size, 3, none⟩ = some (i6 d) ∧ w2.cell? ⟨CB, 0, none⟩ = some (i6 p) ∧ w2.cell? ⟨CB, 1, none⟩ = some (i6 q) ∧ w2.cell? ⟨CB, 2, none⟩ = some (i6 s) ∧ w2.cell? ⟨CB, 3, none⟩ = some (i6 t) := by
  obtain ⟨h0, h1, h2, h3, h4, h5, h6, h7, h8⟩ := h
  exact ⟨q_step h0 hb, cell_below hb h1, cell_below hb h2, cell_below hb h3, cell_below hb h4, cell_below hb h5, cell_below hb h6, cell_below hb h7, cell_below hb h8⟩
theorem s_alloc {w w1 : World} {CB : Nat} {a b c d p q s t : Int} (o : Obj) (h : Below w.heap.size w w1 ∧ w1.cell? ⟨w.heap.size, 0, none⟩ = some (i6 a) ∧ w1.cell? ⟨w.heap.size, 1, none⟩ = some (i6 b) ∧ w1.cell? ⟨w.heap.size, 2, none⟩ = some (i6 c) ∧ w1.cell? ⟨w.heap.size, 3, none⟩ = some (i6 d) ∧ w1.cell? ⟨CB, 0, none⟩ = some (i6 p) ∧ w1.cell? ⟨CB, 1, none⟩ = some (i6 q) ∧ w1.cell? ⟨CB, 2, none⟩ = some (i6 s) ∧ w1.cell? ⟨CB, 3, none⟩ = some (i6 t)) : Below w.heap.size w (w1.alloc o) ∧ (w1.alloc o).cell? ⟨w.heap.size, 0, none⟩ = some (i6 a) ∧ (w1.alloc o).cell? ⟨w.heap.size, 1, none⟩ = some (i6 b) ∧ (w1.alloc o).cell? ⟨w.heap.size, 2, none⟩ = some (i6 c) ∧ (w1.alloc o).cell? ⟨w.heap.size, 3, none⟩ = some (i6 d) ∧ (w1.alloc o).cell? ⟨CB, 0, none⟩ = some (i6 p) ∧ (w1.alloc o).cell? ⟨CB, 1, none⟩ = some (i6 q) ∧ (w1.alloc o).cell? ⟨CB, 2, none⟩ = some (i6 s) ∧ (w1.alloc o).cell? ⟨CB, 3, none⟩ = some (i6 t) := by
  obtain ⟨h0, h1, h2, h3, h4, h5, h6, h7, h8⟩ := h
  exact ⟨q_alloc h0 _, cell_old h1, cell_old h2, cell_old h3, cell_old h4, cell_old h5, cell_old h6, cell_old h7, cell_old h8⟩
end Go.Proofs.YtlofhbeifgaoeaaDoor
