/- Layer 3: the form of fields. -/
import Derived.Test.YtbffnobchjiaeaaDoorCd5
namespace Go.Proofs.YtbffnobchjiaeaaDoor
open Go Go.RowKit
set_option linter.unusedSimpArgs false
set_option linter.unusedVariables false
def spaceC : List Value := (List.range 256).map fun c => .int .u8 (if Lib.isSp (UInt8.ofNat c) then 1 else 0)
theorem space_at {W : World} (h : RowAt 0 spaceC W) : ∀ c : Nat, c < 256 → W.cell? ⟨0, c, none⟩ = some (.int .u8 (if Lib.isSp (UInt8.ofNat c) then 1 else 0)) :=
  fun c hc => h.at_ c _ (by unfold spaceC; rw [List.getElem?_map, List.getElem?_range hc]; rfl)
theorem fields_any (s : B8) (w : World) (hs1 : ∀ b ∈ s, b.toNat < 128) (hs2 : s.length < 1000) (ht : RowAt 0 spaceC w) :
    Calls Tryd.prog 38 #[strV s] w fun e w' => e = .returned (.slice (some ⟨w.heap.size, 0, none⟩) (Lib.fields s).length (Lib.fields s).length) ∧ w' = w.alloc (.cells ((Lib.fields s).map strV).toArray 9) := by
  refine (Tryd.strings_Fields_cells ⟨s.toArray⟩ w (by show s.toArray.size < _; rw [List.size_toArray]; omega) (fun j b hj => hs1 b (List.mem_of_getElem? hj)) (space_at ht)).mono fun e w' h => h
theorem formL_snoc (ws : List B8) (w : B8) : formL (ws ++ [w]) = stepF (formL ws) w := by unfold formL; rw [List.foldl_append]; rfl
theorem formL_take {ws : List B8} {k : Nat} {x : B8} (h : ws[k]? = some x) : formL (ws.take (k + 1)) = stepF (formL (ws.take k)) x := by
  rw [List.take_add_one, h]; exact formL_snoc _ _
structure OkS (s : B8) : Prop where
  word : ∀ (k : Nat) (x : B8), (Lib.fields s)[k]? = some x → wordB x = true ∧ x.length ≤ 100
  many : (Lib.fields s).length ≤ 100
  ascii : ∀ b ∈ s, b.toNat < 128
  len : s.length < 1000
theorem okS_of {s : B8} (h : okS s = true) : OkS s := by
  unfold okS at h
  simp only [Bool.and_eq_true, decide_eq_true_eq, List.all_eq_true] at h
  exact ⟨fun k x hx => h.1.1.1 x (List.mem_of_getElem? hx), h.1.1.2, h.1.2, h.2⟩
theorem wordB_of {x : B8} (h : wordB x = true) (hne : x ≠ [66]) : 2 ≤ x.length ∧ digitB (x.getD (x.length - 1) 0) = true := by
  unfold wordB at h
  simp only [Bool.or_eq_true, beq_iff_eq, Bool.and_eq_true, decide_eq_true_eq] at h
  exact h.resolve_left hne
def zeroF : F3 × List B8 := (([], false, 0), [])
/-- The state of form's loop. -/
structure FormSt (w0 : World) (ws : List B8) (r : F3 × List B8) (fv nv : Value) (wr : World) : Prop where
  below : Below w0.heap.size w0 wr
  b0 : Blk wr w0.heap.size [.slice none 0 0, .bool false, i6 0]
  b1 : Blk wr (w0.heap.size + 1) [fv, .bool r.1.2.1, i6 r.1.2.2]
  words : LayW wr (w0.heap.size + 2) (ws.map strV)
  ownI : OwnI wr (w0.heap.size + 3) fv r.1.1
  ownS : OwnS wr (w0.heap.size + 3) nv r.2
theorem FormSt.bytes {w0 wr : World} {ws : List B8} {r : F3 × List B8} {fv nv : Value} (h : FormSt w0 ws r fv nv wr) : FormSt w0 ws ((r.1.1, true, r.1.2.2), r.2) fv nv (wr.setCell ⟨w0.heap.size + 1, 1, none⟩ (.bool true)) := by
  have hg := grown_set wr (w0.heap.size + 1) 1 (.bool true)
  refine ⟨h.below.grown hg h.below.size (fun k hk => by cases hk; omega), h.b0.grown hg (by simp), h.b1.set 1 _ (by simp) rfl, h.words.grown hg (by simp), h.ownI.kept hg ?_, h.ownS.kept hg ?_⟩
  · exact Or.inr fun e => by have := h.ownI.lt _ e; omega
  · exact Or.inr fun e => by have := h.ownS.lt _ e; omega
theorem FormSt.list {w0 wr : World} {ws : List B8} {r : F3 × List B8} {fv nv : Value} (h : FormSt w0 ws r fv nv wr) (n : Int) : FormSt w0 ws ((r.1.1, r.1.2.1, n), r.2) fv nv (wr.setCell ⟨w0.heap.size + 1, 2, none⟩ (i6 n)) := by
  have hg := grown_set wr (w0.heap.size + 1) 2 (i6 n)
  refine ⟨h.below.grown hg h.below.size (fun k hk => by cases hk; omega), h.b0.grown hg (by simp), h.b1.set 2 _ (by simp) rfl, h.words.grown hg (by simp), h.ownI.kept hg ?_, h.ownS.kept hg ?_⟩
  · exact Or.inr fun e => by have := h.ownI.lt _ e; omega
  · exact Or.inr fun e => by have := h.ownS.lt _ e; omega
theorem FormSt.alloc {w0 wr : World} {ws : List B8} {r : F3 × List B8} {fv nv : Value} (h : FormSt w0 ws r fv nv wr) (o : Obj) : FormSt w0 ws r fv nv (wr.alloc o) :=
  ⟨h.below.alloc h.below.size o, h.b0.alloc o, h.b1.alloc o, h.words.below ((Below.refl _ _).alloc (Nat.le_refl _) o), h.ownI.alloc o, h.ownS.alloc o⟩
/-- A number more behind the fixed ones: the append, and the store of the row. -/
theorem FormSt.fixed {w0 wr w1 : World} {ws : List B8} {r : F3 × List B8} {fv nv fv' : Value} (h : FormSt w0 ws r fv nv wr) (n : Int) (hg : wr.grownBy w1 fv.ownBlock) (ho : OwnI w1 (w0.heap.size + 3) fv' (r.1.1 ++ [n])) :
    FormSt w0 ws ((r.1.1 ++ [n], r.1.2.1, r.1.2.2), r.2) fv' nv (w1.setCell ⟨w0.heap.size + 1, 0, none⟩ fv') := by
  have hs := grown_set w1 (w0.heap.size + 1) 0 fv'
  have hr : ∀ k, fv.ownBlock = some k → w0.heap.size + 3 ≤ k := fun k hk => (h.ownI.lt k hk).1
  have hb1 : Below w0.heap.size w0 w1 := h.below.grown hg h.below.size (fun k hk => by have := hr k hk; omega)
  have k0 := h.b0.grown hg (fun e => by have := hr _ e.symm; omega)
  have k1 := h.b1.grown hg (fun e => by have := hr _ e.symm; omega)
  have kw := h.words.grown hg (fun e => by have := hr _ e.symm; omega)
  have ks := h.ownS.kept hg (own_ne h.ownS h.ownI (by decide))
  refine ⟨hb1.grown hs hb1.size (fun k hk => by cases hk; omega), k0.grown hs (by simp), k1.set 0 _ (by simp) rfl, kw.grown hs (by simp), ho.kept hs ?_, ks.kept hs ?_⟩
  · exact Or.inr fun e => by have := ho.lt _ e; omega
  · exact Or.inr fun e => by have := ks.lt _ e; omega
theorem FormSt.name {w0 wr w1 : World} {ws : List B8} {r : F3 × List B8} {fv nv nv' : Value} (h : FormSt w0 ws r fv nv wr) (n : B8) (hg : wr.grownBy w1 nv.ownBlock) (ho : OwnS w1 (w0.heap.size + 3) nv' (r.2 ++ [n])) :
    FormSt w0 ws (r.1, r.2 ++ [n]) fv nv' w1 := by
  have hr : ∀ k, nv.ownBlock = some k → w0.heap.size + 3 ≤ k := fun k hk => (h.ownS.lt k hk).1
  exact ⟨h.below.grown hg h.below.size (fun k hk => by have := hr k hk; omega), h.b0.grown hg (fun e => by have := hr _ e.symm; omega), h.b1.grown hg (fun e => by have := hr _ e.symm; omega), h.words.grown hg (fun e => by have := hr _ e.symm; omega), h.ownI.kept hg (own_ne h.ownI h.ownS (by decide)), ho⟩
theorem stepF_len (r : F3 × List B8) (x : B8) : (stepF r x).1.1.length ≤ r.1.1.length + 1 ∧ (stepF r x).2.length ≤ r.2.length + 1 := by
  unfold stepF
  split
  · simp
  · split <;> simp
theorem formL_len : ∀ (ws : List B8) (r : F3 × List B8), (ws.foldl stepF r).1.1.length ≤ r.1.1.length + ws.length ∧ (ws.foldl stepF r).2.length ≤ r.2.length + ws.length
  | [], r => by simp
  | x :: ws, r => by
    have h := formL_len ws (stepF r x)
    have h1 := stepF_len r x
    simp only [List.foldl_cons, List.length_cons]
    omega
theorem formL_take_len (ws : List B8) (k : Nat) : (formL (ws.take k)).1.1.length ≤ k ∧ (formL (ws.take k)).2.length ≤ k := by
  have h := formL_len (ws.take k) zeroF
  have h1 : (ws.take k).length ≤ k := List.length_take_le _ _
  simp only [zeroF, List.length_nil] at h
  exact ⟨by unfold formL; omega, by unfold formL; omega⟩
theorem stepF_b (r : F3 × List B8) : stepF r [66] = ((r.1.1, true, r.1.2.2), r.2) := rfl
theorem stepF_l {r : F3 × List B8} {x : B8} (h : (x == [66]) = false) (h2 : nameOf x = [76]) : stepF r x = ((r.1.1, r.1.2.1, sizeOf_ x), r.2) := by
  unfold stepF; rw [h, h2]; rfl
theorem stepF_f {r : F3 × List B8} {x : B8} (h : (x == [66]) = false) (h2 : (nameOf x == [76]) = false) : stepF r x = ((r.1.1 ++ [sizeOf_ x], r.1.2.1, r.1.2.2), r.2 ++ [nameOf x]) := by
  unfold stepF; rw [h, h2]; rfl
theorem own_set {w : World} {base b o : Nat} {e : TypeId} {s n : Nat} {v u : Value} {xs : List Value} (h : w.ownsRow base e s v n xs) (hb : b < base) : (w.setCell ⟨b, o, none⟩ u).ownsRow base e s v n xs :=
  h.kept (grown_set w b o u) (Or.inr fun e => by have := (h.lt _ e).1; omega)
theorem own_snocI {w : World} {base : Nat} {v : Value} {us : List Int} {n : Int} (h : w.ownsRow base 3 1 v (us.length + 1) (us.map i6 ++ [i6 n])) : OwnI w base v (us ++ [n]) := by
  show w.ownsRow base 3 1 v (us ++ [n]).length ((us ++ [n]).map i6)
  rw [List.map_append, List.length_append]; exact h
theorem own_snocS {w : World} {base : Nat} {v : Value} {us : List B8} {n : B8} (h : w.ownsRow base 9 1 v (us.length + 1) (us.map strV ++ [strV n])) : OwnS w base v (us ++ [n]) := by
  show w.ownsRow base 9 1 v (us ++ [n]).length ((us ++ [n]).map strV)
  rw [List.map_append, List.length_append]; exact h
theorem own_slice {w : World} {base : Nat} {e : TypeId} {s n : Nat} {v : Value} {xs : List Value} (h : w.ownsRow base e s v n xs) : ∃ a m c, v = .slice a m c := by
  rcases Joins.ownsRow_forms h with ⟨rfl, _⟩ | ⟨g, cap, rfl⟩
  · exact ⟨_, _, _, rfl⟩
  · exact ⟨_, _, _, rfl⟩
theorem own_le {w : World} {base base' : Nat} {e : TypeId} {s n : Nat} {v : Value} {xs : List Value} (h : w.ownsRow base e s v n xs) (hb : base' ≤ base) : w.ownsRow base' e s v n xs := by
  refine ⟨h.1, ?_⟩
  rcases h.2 with h0 | ⟨g, cap, cur, hv, hg, hr⟩
  · exact Or.inl h0
  · exact Or.inr ⟨g, cap, cur, hv, Nat.le_trans hb hg, hr⟩
end Go.Proofs.YtbffnobchjiaeaaDoor
