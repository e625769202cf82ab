/- Layer 3: rows of the call's own, kept and grown; slices of numbers and of texts. -/
import Derived.Test.YtbffnobchjiaeaaDoorCd4
import Derived.Test.YtbffnobchjiaeaaDoorShelf03
import Derived.Maps.AppendAt
import Derived.Deep.AppendLies
namespace Go.Proofs.YtbffnobchjiaeaaDoor
open Go Go.RowKit
set_option linter.unusedSimpArgs false
set_option linter.unusedVariables false
theorem Blk.grown {w w' : World} {b : Nat} {vs : List Value} {row : Option Nat} (h : Blk w b vs) (hg : w.grownBy w' row) (hne : some b ≠ row) : Blk w' b vs :=
  ⟨Nat.lt_of_lt_of_le h.1 hg.size, fun j v hj => ⟨(World.cell?_of_block (hg.block b h.1 hne)).trans (h.2 j v hj).1, (World.frozen?_of_block (hg.block b h.1 hne)).trans (h.2 j v hj).2⟩⟩
theorem own_ne {w : World} {base base' : Nat} {e e' : TypeId} {s s' n n' : Nat} {v v' : Value} {xs xs' : List Value} (h : w.ownsRow base e s v n xs) (h' : w.ownsRow base' e' s' v' n' xs') (hne : e ≠ e') : v.ownBlock = none ∨ v.ownBlock ≠ v'.ownBlock := by
  rcases h.2 with ⟨rfl, _⟩ | ⟨g, cap, cur, rfl, _, hh, _⟩
  · exact Or.inl rfl
  · refine Or.inr fun e0 => ?_
    rcases h'.2 with ⟨rfl, _⟩ | ⟨g', cap', cur', rfl, _, hh', _⟩
    · simp [Value.ownBlock] at e0
    · simp [Value.ownBlock] at e0
      subst e0
      rw [hh] at hh'
      simp at hh'
      exact hne hh'.2
theorem grown_set (w : World) (b o : Nat) (u : Value) : w.grownBy (w.setCell ⟨b, o, none⟩ u) (some b) :=
  ⟨rfl, rfl, rfl, by simp [World.setCell], fun k _ hk => Below.heap_setCell _ _ _ _ (fun e => hk (by rw [e]))⟩
/-- The cells of a list of values, from a block's head on. -/
def LayW (w : World) (b : Nat) (vs : List Value) : Prop := b < w.heap.size ∧ ∀ j v, vs[j]? = some v → w.cell? ⟨b, j, none⟩ = some v
theorem LayW.below {w w' : World} {b : Nat} {vs : List Value} (h : LayW w b vs) (hb : Below w.heap.size w w') : LayW w' b vs := ⟨Nat.lt_of_lt_of_le h.1 hb.size, fun j v hj => cell_below hb (h.2 j v hj)⟩
theorem LayW.grown {w w' : World} {b : Nat} {vs : List Value} {row : Option Nat} (h : LayW w b vs) (hg : w.grownBy w' row) (hne : some b ≠ row) : LayW w' b vs :=
  ⟨Nat.lt_of_lt_of_le h.1 hg.size, fun j v hj => (World.cell?_of_block (hg.block b h.1 hne)).trans (h.2 j v hj)⟩
theorem LayW.new (w : World) (vs : List Value) (t : TypeId) : LayW (w.alloc (.cells vs.toArray t)) w.heap.size vs := ⟨by rw [World.size_alloc]; omega, fun j v hj => cell_new (by simpa using hj)⟩
abbrev OwnI (w : World) (base : Nat) (v : Value) (us : List Int) : Prop := w.ownsRow base 3 1 v us.length (us.map i6)
abbrev OwnS (w : World) (base : Nat) (v : Value) (ss : List B8) : Prop := w.ownsRow base 9 1 v ss.length (ss.map strV)
/-- The value is a slice of these values of one cell each. -/
def IsRow (w : World) (v : Value) (xs : List Value) : Prop :=
  ∃ A cap, v = .slice A xs.length cap ∧ (0 < xs.length → ∃ b off, A = some ⟨b, off, none⟩ ∧ b < w.heap.size ∧ ∀ j u, xs[j]? = some u → w.cell? ⟨b, off + j, none⟩ = some u)
theorem IsRow.below {w w' : World} {v : Value} {xs : List Value} (h : IsRow w v xs) (hb : Below w.heap.size w w') : IsRow w' v xs := by
  obtain ⟨A, cap, rfl, hf⟩ := h
  refine ⟨A, cap, rfl, fun h0 => ?_⟩
  obtain ⟨b, off, rfl, h1, h2⟩ := hf h0
  exact ⟨b, off, rfl, Nat.lt_of_lt_of_le h1 hb.size, fun j u hj => cell_below hb (h2 j u hj)⟩
theorem IsRow.nil (w : World) : IsRow w (.slice none 0 0) [] := ⟨none, 0, rfl, fun h => by simp at h⟩
theorem IsRow.of_own {w : World} {base : Nat} {e : TypeId} {v : Value} {n : Nat} {xs : List Value} (h : w.ownsRow base e 1 v n xs) (hn : xs.length = n) : IsRow w v xs := by
  subst hn
  rcases Joins.ownsRow_forms h with ⟨rfl, hx⟩ | ⟨g, cap, rfl⟩
  · have h0 : xs = [] := by first | exact hx | exact List.eq_nil_of_length_eq_zero hx | exact hx.1 | exact hx.2
    subst h0
    exact IsRow.nil w
  · refine ⟨_, cap, rfl, fun h0 => ⟨g, 0, rfl, (h.lt g rfl).2, fun j u hj => ?_⟩⟩
    have hjl : j < xs.length := (List.getElem?_eq_some_iff.1 hj).1
    rw [Nat.zero_add]
    exact (h.cellAt j (by omega)).trans hj
theorem IsRow.of_lay {w : World} {b n c : Nat} {vs : List Value} (h : LayW w b vs) (hn : vs.length = n) : IsRow w (.slice (some ⟨b, 0, none⟩) n c) vs := by
  subst hn
  exact ⟨_, c, rfl, fun _ => ⟨b, 0, rfl, h.1, fun j u hj => by rw [Nat.zero_add]; exact h.2 j u hj⟩⟩
theorem info_parts {z : Value} {t : TypeId} {s b : Nat} (h : (Tryd.prog.info? t).map (fun i => (i.zero, i.size, i.bytes)) = some (some z, s, b)) : ∃ i, Tryd.prog.info? t = some i ∧ i.zero = some z ∧ i.size = s ∧ i.bytes = b := by
  obtain ⟨i, hi, hzz⟩ := Option.map_eq_some_iff.1 h
  simp only [Prod.mk.injEq] at hzz
  exact ⟨i, hi, hzz.1, hzz.2.1, hzz.2.2⟩
theorem info_int : (Tryd.prog.info? 3).map (fun i => (i.zero, i.size, i.bytes)) = some (some (i6 0), 1, 8) := by kernel_rfl
theorem info_str : (Tryd.prog.info? 9).map (fun i => (i.zero, i.size, i.bytes)) = some (some (.string ByteArray.empty), 1, 16) := by kernel_rfl
theorem und_ints : Tryd.prog.underlying 22 = some (.slice 3) := by kernel_rfl
theorem und_strs : Tryd.prog.underlying 38 = some (.slice 9) := by kernel_rfl
end Go.Proofs.YtbffnobchjiaeaaDoor
