/- Rows of structs: slices whose elements are told by a list; rows that were appended to. -/
import Derived.Test.YtgcedookbblibaaOwn
import Derived.Maps.AppendAt
import Derived.Deep.AppendLies
import Derived.Maps.OwnOps
import Derived.Laws.Cover3
import Derived.Laws.Slices
import Derived.WalkSpells
import Derived.Lib.LazyBuf
import Derived.Lib.SmallJoins
namespace Go.Proofs.Ytgcedookbblibaa
open Go Go.RowKit
set_option linter.unusedSimpArgs false
set_option linter.unusedVariables false
section
variable {α : Type} {f : α → List Value} {s : Nat}
def cellsR (f : α → List Value) (l : List α) : List Value := l.flatMap f
theorem cellsR_nil : cellsR f [] = [] := rfl
theorem cellsR_len (hf : ∀ x, (f x).length = s) : ∀ l : List α, (cellsR f l).length = l.length * s
  | [] => by simp [cellsR]
  | g :: gs => by
    have := cellsR_len hf gs
    simp only [cellsR, List.flatMap_cons, List.length_append, List.length_cons, hf] at this ⊢
    rw [this, Nat.succ_mul]; omega
theorem cellsR_at (hf : ∀ x, (f x).length = s) : ∀ (l : List α) (k : Nat) (x : α), l[k]? = some x → ∀ j, j < s → (cellsR f l)[k * s + j]? = (f x)[j]?
  | [], k, x, h, j, hj => by simp at h
  | g :: gs, 0, x, h, j, hj => by
    simp at h; subst h
    simp only [cellsR, List.flatMap_cons]
    rw [List.getElem?_append_left (by rw [hf]; omega)]; congr 1; omega
  | g :: gs, k + 1, x, h, j, hj => by
    have := cellsR_at hf gs k x (by simpa using h) j hj
    simp only [cellsR, List.flatMap_cons] at this ⊢
    rw [List.getElem?_append_right (by rw [hf, Nat.succ_mul]; omega), hf, show (k + 1) * s + j - s = k * s + j by rw [Nat.succ_mul]; omega]
    exact this
theorem cellsR_snoc (gs : List α) (g : α) : cellsR f (gs ++ [g]) = cellsR f gs ++ f g := by simp [cellsR]
theorem cellsR_app (gs hs : List α) : cellsR f (gs ++ hs) = cellsR f gs ++ cellsR f hs := by simp [cellsR]
theorem cellsR_ne (hf : ∀ x, (f x).length = s) (hs : 0 < s) {l : List α} (h : cellsR f l ≠ []) : 0 < l.length := by
  rcases Nat.eq_zero_or_pos l.length with h0 | h0
  · rw [List.eq_nil_of_length_eq_zero h0] at h; exact absurd rfl h
  · exact h0
theorem cellsR_some (hf : ∀ x, (f x).length = s) (hs : 0 < s) {l : List α} (h : 0 < l.length) : cellsR f l ≠ [] := by
  intro e
  have := cellsR_len hf l
  rw [e] at this
  rw [List.length_nil] at this
  have := Nat.mul_pos h hs
  omega
theorem cellsR_drop (hf : ∀ x, (f x).length = s) : ∀ (l : List α) (m : Nat), cellsR f (l.drop m) = (cellsR f l).drop (m * s)
  | l, 0 => by simp
  | [], m + 1 => by simp [cellsR]
  | g :: gs, m + 1 => by
    have := cellsR_drop hf gs m
    simp only [List.drop_succ_cons, cellsR, List.flatMap_cons] at this ⊢
    have e : (m + 1) * s = s + m * s := by rw [Nat.succ_mul]; omega
    rw [this, e, ← List.drop_drop, List.drop_left' (hf g)]
end
/-- A slice value of n elements that, if there is one, begins at o of block b. -/
def RowV (v : Value) (n b o : Nat) : Prop := ∃ A cap, v = .slice A n cap ∧ n ≤ cap ∧ cap ≤ maxLen ∧ (0 < n → A = some ⟨b, o, none⟩)
theorem rowV_nil : RowV (.slice none 0 0) 0 0 0 := ⟨none, 0, rfl, Nat.le_refl _, by decide, fun h => by omega⟩
theorem own_row {w : World} {B : Nat} {e : TypeId} {s n : Nat} {v : Value} {xs : List Value} (h : w.ownsRow B e s v n xs) (hs : 0 < s) : ∃ g, RowV v n g 0 ∧ (xs ≠ [] → B ≤ g ∧ g < w.heap.size ∧ w.rangeAt g 0 xs) := by
  have hl := h.1
  rcases h.2 with ⟨rfl, rfl⟩ | ⟨g, cap, cur, rfl, hb, hg, hn, hm, _, hx⟩
  · refine ⟨0, ⟨none, 0, rfl, Nat.le_refl _, by decide, fun h => by omega⟩, fun hne => ?_⟩
    rw [Nat.zero_mul] at hl
    exact absurd (List.eq_nil_of_length_eq_zero hl) hne
  · refine ⟨g, ⟨_, cap, rfl, hn, hm, fun _ => rfl⟩, fun _ => ⟨hb, (h.lt g rfl).2, fun j v hj => ?_⟩⟩
    have hjl : j < n * s := by rw [← hl]; exact (List.getElem?_eq_some_iff.1 hj).1
    rw [Nat.zero_add]
    exact (h.cellAt j hjl).trans hj
theorem row_info {P : Program} {z : Value} {t : TypeId} {s b : Nat} (h : (P.info? t).map (fun i => (i.zero, i.size, i.bytes)) = some (some z, s, b)) : ∃ i, P.info? t = some i ∧ i.zero = some z ∧ i.size = s ∧ i.bytes = b := by
  obtain ⟨i, hi, hzz⟩ := Option.map_eq_some_iff.1 h
  simp only [Prod.mk.injEq] at hzz
  exact ⟨i, hi, hzz.1, hzz.2.1, hzz.2.2⟩
section
variable {P : Program} {α : Type} {f : α → List Value} {s : Nat}
/-- An element is read out of one of the rows. -/
theorem wp_own_elem {a0 : World} {op : Oper} {a : Act} {w : World} {K : Act → World → Prop} {Q : Exit → Act → World → Prop} (ty : TypeId) (x : Operand) (ho : op.op = .load ty x)
    {L : List (Nat × List Value)} {R : List (Nat × Nat × List Value)} (HO : Own a0 w L R) (d : TypeDesc) (hu : P.underlying ty = some d) (hd : d.isRow = true) (hi : (P.info? ty).map (·.size) = some s)
    (k b o : Nat) (l : List α) (hk : R[k]? = some (b, o, cellsR f l)) (hf : ∀ x, (f x).length = s) (hs : 0 < s) (i : Nat) (y : α) (hy : l[i]? = some y) (hx : a.eval x = .pointer (some ⟨b, o + i * s, none⟩)) (cs : List Value) (hc : f y = cs)
    (h : K (a.put op.dst (.agg cs.toArray)) w) : op.wp P a w K Q := by
  subst hc
  have hil : i < l.length := (List.getElem?_eq_some_iff.1 hy).1
  have hr := (HO.rng k b o _ hk (cellsR_some hf hs (by omega))).2.1
  refine wp_load_mid ty x ho b (o + i * s) hx (f y) d (fun j v hj => ?_) hu hd (by rw [hf]; exact hi) h
  have hjs : j < s := by rw [← hf y]; exact (List.getElem?_eq_some_iff.1 hj).1
  rw [Nat.add_assoc]
  exact hr (i * s + j) v ((cellsR_at hf l i y hy j hjs).trans hj)
theorem wpList_own_elem {a0 : World} {ops : Array Oper} {rest : List Oper} {op : Oper} {a : Act} {w : World} {Q : Exit → Act → World → Prop} (hgd : Region.wanted op (yielded ops a.tmps) = true) (ty : TypeId) (x : Operand) (ho : op.op = .load ty x)
    {L : List (Nat × List Value)} {R : List (Nat × Nat × List Value)} (HO : Own a0 w L R) (d : TypeDesc) (hu : P.underlying ty = some d) (hd : d.isRow = true) (hi : (P.info? ty).map (·.size) = some s)
    (k b o : Nat) (l : List α) (hk : R[k]? = some (b, o, cellsR f l)) (hf : ∀ x, (f x).length = s) (hs : 0 < s) (i : Nat) (y : α) (hy : l[i]? = some y) (hx : a.eval x = .pointer (some ⟨b, o + i * s, none⟩)) (cs : List Value) (hc : f y = cs)
    (h : wpList P ops Q rest (a.put op.dst (.agg cs.toArray)) w) : wpList P ops Q (op :: rest) a w :=
  BigFrame.wpList_want hgd fun _ hK => wp_own_elem ty x ho HO d hu hd hi k b o l hk hf hs i y hy hx cs hc (hK _ _ h)
theorem row_below {w w' : World} {B s n : Nat} {e : TypeId} {v : Value} {xs : List Value} (h : w.ownsRow B e s v n xs) (hb : Below w.heap.size w w') : w'.ownsRow B e s v n xs :=
  h.kept (row := none) ⟨hb.os, hb.tape, hb.output, hb.size, fun j hj _ => hb.block j hj⟩ (by cases hv : v.ownBlock <;> simp)
theorem Own.grown {a w w' : World} {L : List (Nat × List Value)} {R : List (Nat × Nat × List Value)} {row : Option Nat} (h : Own a w L R) (hg : w.grownBy w' row) (hr : ∀ k, row = some k → a.heap.size ≤ k)
    (hL : ∀ g, row = some g → ∀ (i c : Nat) (vs : List Value), L[i]? = some (c, vs) → c ≠ g) (hR : ∀ g, row = some g → ∀ (k b o : Nat) (cs : List Value), R[k]? = some (b, o, cs) → cs ≠ [] → b ≠ g) : Own a w' L R := by
  refine ⟨h.q.grown hg h.q.size hr, h.ge, fun k b vs hk => ?_, h.ne, fun k b o cs hk hne => ?_⟩
  · have hB := h.blk k b vs hk
    have hb : w'.heap[b]? = w.heap[b]? := hg.block b hB.lt (fun e => hL b e.symm k b vs hk rfl)
    exact ⟨Nat.lt_of_lt_of_le hB.lt hg.size, fun j v hj => ⟨(World.cell?_of_block (a := ⟨b, j, none⟩) hb).trans (hB.cell j hj), (World.frozen?_of_block (a := ⟨b, j, none⟩) hb).trans (hB.froz j hj)⟩⟩
  · obtain ⟨h1, h2, h3⟩ := h.rng k b o cs hk hne
    have hb : w'.heap[b]? = w.heap[b]? := hg.block b h1 (fun e => hR b e.symm k b o cs hk hne rfl)
    exact ⟨Nat.lt_of_lt_of_le h1 hg.size, fun j v hj => (World.cell?_of_block (a := ⟨b, o + j, none⟩) hb).trans (h2 j v hj), h3⟩
/-- One more element, out of a block of its own, behind a row that a call has made. -/
theorem wp_own_append {a0 : World} {op : Oper} {a : Act} {w : World} {K : Act → World → Prop} {Q : Exit → Act → World → Prop} (s' x : Operand) (t : TypeId)
    (ho : op.op = .call { callee := .builtin .append, args := #[s', x], argTypes := #[t, t] })
    (base : Nat) (e : TypeId) (i : TypeInfo) (z : Value) (size bytes : Nat) (ht : P.underlying t = some (.slice e)) (hi : P.info? e = some i) (hz : i.zero = some z)
    (hsize : i.size = size) (hby : i.bytes = bytes) (hzs : z.cells.size = size) (hsz : 0 < size)
    {L : List (Nat × List Value)} {R : List (Nat × Nat × List Value)} (HO : Own a0 w L R)
    (v : Value) (n : Nat) (xs : List Value) (hs : a.eval s' = v) (hown : w.ownsRow base e size v n xs)
    (k g c : Nat) (news : List Value) (hk : L[k]? = some (g, news)) (hx : a.eval x = .slice (some ⟨g, 0, none⟩) 1 c) (hl : news.length = size) (h1 : news.all (·.oneCell') = true)
    (h63 : n + 1 ≤ maxLen) (hbytes : (n + 1) * bytes ≤ 140737488355328) (hbase : base ≤ w.heap.size) (hba : a0.heap.size ≤ base)
    (hL : ∀ q, v.ownBlock = some q → ∀ (i c : Nat) (vs : List Value), L[i]? = some (c, vs) → c ≠ q) (hR : ∀ q, v.ownBlock = some q → ∀ (k b o : Nat) (cs : List Value), R[k]? = some (b, o, cs) → cs ≠ [] → b ≠ q)
    (h : ∀ v' w', w'.ownsRow base e size v' (n + 1) (xs ++ news) → Own a0 w' L R → K (a.put op.dst v') w') : op.wp P a w K Q :=
  wp_append_own w s' x t ho base e i z size bytes ht hi hz hsize hby hzs hsz v n xs hs hown ⟨g, 0, none⟩ 1 c news hx (by rw [hl, Nat.one_mul]) (fun j u hj => by
      rw [show (⟨g, 0, none⟩ : Addr).add j = ⟨g, j, none⟩ by unfold Addr.add; split <;> simp_all]
      exact (HO.blk k g news hk).cell j hj) (fun u hu => List.all_eq_true.1 h1 u hu) h63 hbytes hbase
    (fun v' w' h2 h3 _ => h v' w' h2 (HO.grown h3 (fun q hq => Nat.le_trans hba (hown.lt q hq).1) hL hR))
/-- A slice literal of one struct. -/
theorem wp_own_lit {a0 : World} {op : Oper} {a : Act} {w : World} {K : Act → World → Prop} {Q : Exit → Act → World → Prop} (t : TypeId) (x : Operand) (ho : op.op = .buildSlice t 1 #[(0, x)])
    {L : List (Nat × List Value)} {R : List (Nat × Nat × List Value)} (HO : Own a0 w L R) (e : TypeId) (cs : List Value) (hx : a.eval x = .agg cs.toArray)
    (hrun : ∀ W, (Instr.buildSlice t 1 #[(0, .agg cs.toArray)]).run P W = .ok (.slice (some ⟨W.heap.size, 0, none⟩) 1 1) (W.alloc (.cells cs.toArray e)))
    (h : ∀ (n : Nat) (W : World), w.heap.size ≤ n → Below w.heap.size w W → Own a0 W (L ++ [(n, cs)]) R → K (a.put op.dst (.slice (some ⟨n, 0, none⟩) 1 1)) W) : op.wp P a w K Q := by
  have HN := HO.alloc cs.toArray e
  have := h _ _ (Nat.le_refl _) ((Below.refl _ _).alloc (Nat.le_refl _) _) HN
  unfold Oper.wp execOp
  simp only [ho, List.map_toArray, List.map_cons, List.map_nil, hx, Sem.run_bind, Sem.run_pure, Result.andThen_ok, hrun w]
  exact this
theorem own_at_lit (t : TypeId) {n : Nat} {xs : Array (Nat × Operand)} {ops : Array Oper} {rest : List Oper} {d : Option Tmp} {t' : TypeId} {p : String} {af : Array Edge} {a : Act} {w : World} {Q : Exit → Act → World → Prop}
    (h : wpList P ops Q ({ dst := d, op := .buildSlice t n xs, type := t', pos := p, after := af, guard := none } :: rest) a w) : wpList P ops Q ({ dst := d, op := .buildSlice t n xs, type := t', pos := p, after := af, guard := none } :: rest) a w := h
theorem wpList_own_lits {a0 : World} {ops : Array Oper} {rest : List Oper} {op : Oper} {a : Act} {w : World} {Q : Exit → Act → World → Prop} (hgd : op.guard = none) (t : TypeId) (n : Nat) (xs : List (Nat × Operand)) (ho : op.op = .buildSlice t n xs.toArray)
    {L : List (Nat × List Value)} {R : List (Nat × Nat × List Value)} (HO : Own a0 w L R) (e : TypeId) (cs : List Value) (vs : List (Nat × Value)) (hx : xs.map (fun p => (p.1, a.eval p.2)) = vs)
    (hrun : ∀ W, (Instr.buildSlice t n vs.toArray).run P W = .ok (.slice (some ⟨W.heap.size, 0, none⟩) n n) (W.alloc (.cells cs.toArray e)))
    (h : ∀ (g : Nat) (W : World), Own a0 W (L ++ [(g, cs)]) R → wpList P ops Q rest (a.put op.dst (.slice (some ⟨g, 0, none⟩) n n)) W) : wpList P ops Q (op :: rest) a w :=
  wpList_plain hgd fun _ hK => by
    subst hx
    have HN := HO.alloc cs.toArray e
    have := hK _ _ (h _ _ HN)
    unfold Oper.wp execOp
    simp only [ho, List.map_toArray, Sem.run_bind, Sem.run_pure, Result.andThen_ok, hrun w]
    exact this
end
end Go.Proofs.Ytgcedookbblibaa
