/- Blocks of the call's own, all in one list; whole structs loaded and stored by one law each; worlds and blocks are named anew by each step. -/
import Derived.Test.YtgcedookbblibaaLib
import Derived.Test.YtgcedookbblibaaLib2
import Derived.Test.YtgcedookbblibaaLib3
import Derived.Deep.MidRow
import Derived.OwnWalk
import Derived.BigFrame
namespace Go.Proofs.Ytgcedookbblibaa
open Go Go.RowKit
set_option linter.unusedSimpArgs false
set_option linter.unusedVariables false
theorem own_below_setCells {B b : Nat} {a : World} (hb : B ≤ b) : ∀ (vs : List Value) (o : Nat) {w : World}, Below B a w → Below B a (w.setCells b o vs)
  | [], _, _, h => h
  | v :: r, o, _, h => own_below_setCells hb r (o + 1) (h.setCell hb v)
/-- A list of cells in which some were written. -/
def patch (vs : List Value) (o : Nat) (us : List Value) : List Value := vs.take o ++ us ++ vs.drop (o + us.length)
/-- Own blocks, in the order in which they were made: none is another's, each lies behind a's heap. -/
structure Own (a w : World) (L : List (Nat × List Value)) (R : List (Nat × Nat × List Value)) : Prop where
  q : Below a.heap.size a w
  ge : ∀ (k b : Nat) (vs : List Value), L[k]? = some (b, vs) → a.heap.size ≤ b
  blk : ∀ (k b : Nat) (vs : List Value), L[k]? = some (b, vs) → Blk w b vs
  ne : ∀ (i j b c : Nat) (vs us : List Value), L[i]? = some (b, vs) → L[j]? = some (c, us) → i ≠ j → b ≠ c
  rng : ∀ (k b o : Nat) (cs : List Value), R[k]? = some (b, o, cs) → cs ≠ [] → b < w.heap.size ∧ w.rangeAt b o cs ∧ ∀ (i c : Nat) (vs : List Value), L[i]? = some (c, vs) → c ≠ b
theorem Own.nil (a : World) : Own a a [] [] := ⟨Below.refl _ _, fun _ _ _ h => by simp at h, fun _ _ _ h => by simp at h, fun _ _ _ _ _ _ h => by simp at h, fun _ _ _ _ h => by simp at h⟩
theorem Own.nil' {a w : World} (h : Below a.heap.size a w) : Own a w [] [] := ⟨h, fun _ _ _ h => by simp at h, fun _ _ _ h => by simp at h, fun _ _ _ _ _ _ h => by simp at h, fun _ _ _ _ h => by simp at h⟩
theorem range_below {w w' : World} {b o : Nat} {cs : List Value} (hb : b < w.heap.size) (h : w.rangeAt b o cs) (hq : Below w.heap.size w w') : w'.rangeAt b o cs := fun j v hj => (hq.cell (p := ⟨b, o + j, none⟩) hb).trans (h j v hj)
theorem Own.below {a w w' : World} {L : List (Nat × List Value)} {R : List (Nat × Nat × List Value)} (h : Own a w L R) (hb : Below w.heap.size w w') : Own a w' L R :=
  ⟨q_step h.q hb, h.ge, fun k b vs hk => (h.blk k b vs hk).below hb, h.ne, fun k b o cs hk hne => ⟨Nat.lt_of_lt_of_le (h.rng k b o cs hk hne).1 hb.size, range_below (h.rng k b o cs hk hne).1 (h.rng k b o cs hk hne).2.1 hb, (h.rng k b o cs hk hne).2.2⟩⟩
theorem Own.drew {a w : World} {L : List (Nat × List Value)} {R : List (Nat × Nat × List Value)} (h : Own a w L R) : Own a w.drew L R := h.below (Below.refl _ _).drew
theorem Own.drewN {a w : World} {L : List (Nat × List Value)} {R : List (Nat × Nat × List Value)} (h : Own a w L R) (n : Nat) : Own a (w.drewN n) L R := h.below (below_drewN n (Below.refl _ _))
theorem Own.allocO {a w : World} {L : List (Nat × List Value)} {R : List (Nat × Nat × List Value)} (h : Own a w L R) (o : Obj) : Own a (w.alloc o) L R := h.below ((Below.refl _ _).alloc (Nat.le_refl _) o)
theorem Own.alloc {a w : World} {L : List (Nat × List Value)} {R : List (Nat × Nat × List Value)} (h : Own a w L R) (cs : Array Value) (t : TypeId) : Own a (w.alloc (.cells cs t)) (L ++ [(w.heap.size, cs.toList)]) R := by
  have hq : Below w.heap.size w (w.alloc (.cells cs t)) := (Below.refl _ _).alloc (Nat.le_refl _) _
  have key : ∀ (k b : Nat) (vs : List Value), (L ++ [(w.heap.size, cs.toList)])[k]? = some (b, vs) → (L[k]? = some (b, vs)) ∨ (k = L.length ∧ b = w.heap.size ∧ vs = cs.toList) := by
    intro k b vs hk
    rcases Nat.lt_or_ge k L.length with h1 | h1
    · rw [List.getElem?_append_left h1] at hk; exact Or.inl hk
    · rw [List.getElem?_append_right h1] at hk
      rcases Nat.eq_zero_or_pos (k - L.length) with h2 | h2
      · rw [h2] at hk; simp at hk; exact Or.inr ⟨by omega, hk.1.symm, hk.2.symm⟩
      · rw [List.getElem?_eq_none (by simp; omega)] at hk; cases hk
  refine ⟨q_step h.q hq, fun k b vs hk => ?_, fun k b vs hk => ?_, fun i j b c vs us hi hj hne => ?_, fun k b o us hk hne => ?_⟩
  · rcases key k b vs hk with h1 | ⟨_, rfl, _⟩
    · exact h.ge k b vs h1
    · exact h.q.size
  · rcases key k b vs hk with h1 | ⟨_, rfl, rfl⟩
    · exact (h.blk k b vs h1).below hq
    · exact Blk.new rfl
  · rcases key i b vs hi with h1 | ⟨e1, rfl, _⟩
    · rcases key j c us hj with h2 | ⟨e2, rfl, _⟩
      · exact h.ne i j b c vs us h1 h2 hne
      · exact Nat.ne_of_lt (h.blk i b vs h1).lt
    · rcases key j c us hj with h2 | ⟨e2, rfl, _⟩
      · exact (Nat.ne_of_lt (h.blk j c us h2).lt).symm
      · exact absurd (e1.trans e2.symm) hne
  · obtain ⟨h1, h2, h3⟩ := h.rng k b o us hk hne
    refine ⟨Nat.lt_of_lt_of_le h1 hq.size, range_below h1 h2 hq, fun i c vs hi => ?_⟩
    rcases key i c vs hi with h4 | ⟨_, rfl, _⟩
    · exact h3 i c vs h4
    · exact (Nat.ne_of_lt h1).symm
theorem patch_length {vs us : List Value} {o : Nat} (h : o + us.length ≤ vs.length) : (patch vs o us).length = vs.length := by
  unfold patch
  simp only [List.length_append, List.length_take, List.length_drop]
  omega
theorem patch_in {vs us : List Value} {o : Nat} (h : o + us.length ≤ vs.length) {j : Nat} (hj : j < us.length) : (patch vs o us)[o + j]? = us[j]? := by
  unfold patch
  rw [List.getElem?_append_left (by simp only [List.length_append, List.length_take]; omega), List.getElem?_append_right (by simp only [List.length_take]; omega), List.length_take]
  congr 1
  omega
theorem patch_out {vs us : List Value} {o : Nat} (h : o + us.length ≤ vs.length) {j : Nat} (hj : j < o ∨ o + us.length ≤ j) : (patch vs o us)[j]? = vs[j]? := by
  unfold patch
  rcases hj with hj | hj
  · rw [List.getElem?_append_left (by simp only [List.length_append, List.length_take]; omega), List.getElem?_append_left (by simp only [List.length_take]; omega), List.getElem?_take_of_lt hj]
  · rw [List.getElem?_append_right (by simp only [List.length_append, List.length_take]; omega), List.getElem?_drop]
    congr 1
    simp only [List.length_append, List.length_take]
    omega
theorem Own.setCells {a w : World} {L : List (Nat × List Value)} {R : List (Nat × Nat × List Value)} (h : Own a w L R) {k b : Nat} {vs : List Value} (hk : L[k]? = some (b, vs)) (o : Nat) (us : List Value) (ho : o + us.length ≤ vs.length) :
    Own a (w.setCells b o us) (L.set k (b, patch vs o us)) R := by
  have hkl : k < L.length := (List.getElem?_eq_some_iff.1 hk).1
  have key : ∀ (i c : Nat) (xs : List Value), (L.set k (b, patch vs o us))[i]? = some (c, xs) → (i = k ∧ c = b ∧ xs = patch vs o us) ∨ (i ≠ k ∧ L[i]? = some (c, xs)) := by
    intro i c xs hi
    by_cases e : i = k
    · subst e
      rw [List.getElem?_set_self hkl] at hi
      injection hi with hi
      injection hi with h1 h2
      exact Or.inl ⟨rfl, h1.symm, h2.symm⟩
    · rw [List.getElem?_set_ne (fun h => e h.symm)] at hi
      exact Or.inr ⟨e, hi⟩
  have key2 : ∀ (i c : Nat) (xs : List Value), (L.set k (b, patch vs o us))[i]? = some (c, xs) → ∃ ys, L[i]? = some (c, ys) := by
    intro i c xs hi
    rcases key i c xs hi with ⟨rfl, rfl, _⟩ | ⟨_, h1⟩
    · exact ⟨_, hk⟩
    · exact ⟨_, h1⟩
  have hB := h.blk k b vs hk
  refine ⟨own_below_setCells (h.ge k b vs hk) us o h.q, fun i c xs hi => ?_, fun i c xs hi => ?_, fun i j c d xs ys hi hj hne => ?_, fun i c q xs hi hne => ?_⟩
  · obtain ⟨ys, h1⟩ := key2 i c xs hi
    exact h.ge i c ys h1
  · have hsz : w.heap.size ≤ (w.setCells b o us).heap.size := (own_below_setCells (B := 0) (Nat.zero_le _) us o (Below.refl 0 w)).size
    rcases key i c xs hi with ⟨rfl, rfl, rfl⟩ | ⟨hik, h1⟩
    · refine ⟨Nat.lt_of_lt_of_le hB.lt hsz, fun j v hj => ⟨?_, ?_⟩⟩
      · have hjl : j < vs.length := by
          have := (List.getElem?_eq_some_iff.1 hj).1
          rwa [patch_length ho] at this
        by_cases hin : o ≤ j ∧ j < o + us.length
        · obtain ⟨q, rfl⟩ : ∃ q, j = o + q := ⟨j - o, by omega⟩
          rw [patch_in ho (by omega)] at hj
          rw [World.cell?_setCells_in c us o w (fun p hp => by rw [hB.cell (o + p) (List.getElem?_eq_getElem (by omega))]; rfl) q (by omega), ← hj, List.getElem?_eq_getElem (by omega)]
        · rw [patch_out ho (by omega)] at hj
          rw [World.cell?_setCells_out c us o w ⟨c, j, none⟩ (fun _ _ => by dsimp only; omega)]
          exact hB.cell j hj
      · rw [World.frozen?_setCells]
        have hjl : j < vs.length := by
          have := (List.getElem?_eq_some_iff.1 hj).1
          rwa [patch_length ho] at this
        exact hB.froz j (List.getElem?_eq_getElem hjl)
    · have hB2 := h.blk i c xs h1
      have hcb : c ≠ b := h.ne i k c b xs vs h1 hk hik
      refine ⟨Nat.lt_of_lt_of_le hB2.lt hsz, fun j v hj => ⟨?_, ?_⟩⟩
      · rw [World.cell?_setCells_out b us o w ⟨c, j, none⟩ (fun e => absurd e hcb)]
        exact hB2.cell j hj
      · rw [World.frozen?_setCells]
        exact hB2.froz j hj
  · obtain ⟨y1, h1⟩ := key2 i c xs hi
    obtain ⟨y2, h2⟩ := key2 j d ys hj
    exact h.ne i j c d y1 y2 h1 h2 hne
  · obtain ⟨h1, h2, h3⟩ := h.rng i c q xs hi hne
    refine ⟨Nat.lt_of_lt_of_le h1 (own_below_setCells (B := 0) (Nat.zero_le _) us o (Below.refl 0 w)).size, fun j v hj => ?_, fun j d ys hd => ?_⟩
    · rw [World.cell?_setCells_out b us o w ⟨c, q + j, none⟩ (fun e => absurd e.symm (h3 k b vs hk))]
      exact h2 j v hj
    · obtain ⟨y1, hy1⟩ := key2 j d ys hd
      exact h3 j d y1 hy1
/-- More, fewer, other rows of others. -/
theorem Own.reR {a w : World} {L : List (Nat × List Value)} {R : List (Nat × Nat × List Value)} (h : Own a w L R) (R' : List (Nat × Nat × List Value)) (hr : ∀ (k b o : Nat) (cs : List Value), R'[k]? = some (b, o, cs) → cs ≠ [] → b < w.heap.size ∧ w.rangeAt b o cs ∧ ∀ (i c : Nat) (vs : List Value), L[i]? = some (c, vs) → c ≠ b) : Own a w L R' := ⟨h.q, h.ge, h.blk, h.ne, hr⟩
theorem Own.noR {a w : World} {L : List (Nat × List Value)} {R : List (Nat × Nat × List Value)} (h : Own a w L R) : Own a w L [] := h.reR [] (fun _ _ _ _ h => by simp at h)
theorem Own.push {a w : World} {L : List (Nat × List Value)} {R : List (Nat × Nat × List Value)} (h : Own a w L R) (b o : Nat) (cs : List Value) (hr : cs ≠ [] → b < w.heap.size ∧ w.rangeAt b o cs ∧ ∀ (i c : Nat) (vs : List Value), L[i]? = some (c, vs) → c ≠ b) : Own a w L ((b, o, cs) :: R) :=
  h.reR _ (fun k b' o' cs' hk hne => by
    cases k with
    | zero => simp only [List.getElem?_cons_zero, Option.some.injEq, Prod.mk.injEq] at hk; obtain ⟨rfl, rfl, rfl⟩ := hk; exact hr hne
    | succ k => exact h.rng k b' o' cs' (by simpa using hk) hne)
/-- A row of an argument. -/
theorem Own.pushArg {a w : World} {L : List (Nat × List Value)} {R : List (Nat × Nat × List Value)} (h : Own a w L R) (b o : Nat) (cs : List Value) (hr : cs ≠ [] → b < a.heap.size ∧ a.rangeAt b o cs) : Own a w L ((b, o, cs) :: R) :=
  h.push b o cs (fun hne => ⟨Nat.lt_of_lt_of_le (hr hne).1 h.q.size, range_below (hr hne).1 (hr hne).2 h.q, fun i c vs hi => by have := h.ge i c vs hi; have := (hr hne).1; omega⟩)
/-- A row that a call has made: it lies in no older block. -/
theorem Own.pushNew {a w w' : World} {L : List (Nat × List Value)} {R : List (Nat × Nat × List Value)} (h : Own a w L R) (hb : Below w.heap.size w w') (b o : Nat) (cs : List Value) (hr : cs ≠ [] → w.heap.size ≤ b ∧ b < w'.heap.size ∧ w'.rangeAt b o cs) : Own a w' L ((b, o, cs) :: R) :=
  (h.below hb).push b o cs (fun hne => ⟨(hr hne).2.1, (hr hne).2.2, fun i c vs hi => by have := (h.blk i c vs hi).lt; have := (hr hne).1; omega⟩)
/-- Only one of the rows. -/
theorem Own.only {a w : World} {L : List (Nat × List Value)} {R : List (Nat × Nat × List Value)} (h : Own a w L R) (k b o : Nat) (cs : List Value) (hk : R[k]? = some (b, o, cs)) : Own a w L [(b, o, cs)] :=
  h.noR.push b o cs (fun hne => h.rng k b o cs hk hne)
/-- Fewer own blocks: the first m. -/
theorem Own.takeL {a w : World} {L : List (Nat × List Value)} {R : List (Nat × Nat × List Value)} (h : Own a w L R) (m : Nat) : Own a w (L.take m) R :=
  have key : ∀ (i : Nat) {x : Nat × List Value}, (L.take m)[i]? = some x → L[i]? = some x := fun i x hi => by
    rw [List.getElem?_take] at hi
    split at hi
    · exact hi
    · cases hi
  ⟨h.q, fun k b vs hk => h.ge k b vs (key k hk), fun k b vs hk => h.blk k b vs (key k hk), fun i j b c vs us hi hj => h.ne i j b c vs us (key i hi) (key j hj), fun k b o cs hk hne => ⟨(h.rng k b o cs hk hne).1, (h.rng k b o cs hk hne).2.1, fun i c vs hi => (h.rng k b o cs hk hne).2.2 i c vs (key i hi)⟩⟩
theorem Own.names1 {a w : World} {R : List (Nat × Nat × List Value)} {b0 : Nat} {v0 : List Value} (_ : Own a w [(b0, v0)] R) : ∃ n0 : Nat, n0 = b0 := ⟨_, rfl⟩
theorem Own.names2 {a w : World} {R : List (Nat × Nat × List Value)} {b0 b1 : Nat} {v0 v1 : List Value} (_ : Own a w [(b0, v0), (b1, v1)] R) : ∃ n0 n1 : Nat, n0 = b0 ∧ n1 = b1 := ⟨_, _, rfl, rfl⟩
theorem Own.names3 {a w : World} {R : List (Nat × Nat × List Value)} {b0 b1 b2 : Nat} {v0 v1 v2 : List Value} (_ : Own a w [(b0, v0), (b1, v1), (b2, v2)] R) : ∃ n0 n1 n2 : Nat, n0 = b0 ∧ n1 = b1 ∧ n2 = b2 := ⟨_, _, _, rfl, rfl, rfl⟩
theorem Own.names4 {a w : World} {R : List (Nat × Nat × List Value)} {b0 b1 b2 b3 : Nat} {v0 v1 v2 v3 : List Value} (_ : Own a w [(b0, v0), (b1, v1), (b2, v2), (b3, v3)] R) : ∃ n0 n1 n2 n3 : Nat, n0 = b0 ∧ n1 = b1 ∧ n2 = b2 ∧ n3 = b3 := ⟨_, _, _, _, rfl, rfl, rfl, rfl⟩
theorem Own.names5 {a w : World} {R : List (Nat × Nat × List Value)} {b0 b1 b2 b3 b4 : Nat} {v0 v1 v2 v3 v4 : List Value} (_ : Own a w [(b0, v0), (b1, v1), (b2, v2), (b3, v3), (b4, v4)] R) : ∃ n0 n1 n2 n3 n4 : Nat, n0 = b0 ∧ n1 = b1 ∧ n2 = b2 ∧ n3 = b3 ∧ n4 = b4 := ⟨_, _, _, _, _, rfl, rfl, rfl, rfl, rfl⟩
theorem Own.names6 {a w : World} {R : List (Nat × Nat × List Value)} {b0 b1 b2 b3 b4 b5 : Nat} {v0 v1 v2 v3 v4 v5 : List Value} (_ : Own a w [(b0, v0), (b1, v1), (b2, v2), (b3, v3), (b4, v4), (b5, v5)] R) : ∃ n0 n1 n2 n3 n4 n5 : Nat, n0 = b0 ∧ n1 = b1 ∧ n2 = b2 ∧ n3 = b3 ∧ n4 = b4 ∧ n5 = b5 := ⟨_, _, _, _, _, _, rfl, rfl, rfl, rfl, rfl, rfl⟩
theorem Own.names7 {a w : World} {R : List (Nat × Nat × List Value)} {b0 b1 b2 b3 b4 b5 b6 : Nat} {v0 v1 v2 v3 v4 v5 v6 : List Value} (_ : Own a w [(b0, v0), (b1, v1), (b2, v2), (b3, v3), (b4, v4), (b5, v5), (b6, v6)] R) : ∃ n0 n1 n2 n3 n4 n5 n6 : Nat, n0 = b0 ∧ n1 = b1 ∧ n2 = b2 ∧ n3 = b3 ∧ n4 = b4 ∧ n5 = b5 ∧ n6 = b6 := ⟨_, _, _, _, _, _, _, rfl, rfl, rfl, rfl, rfl, rfl, rfl⟩
theorem setCells_one (w : World) (b o : Nat) (u : Value) : w.setCells b o [u] = w.setCell ⟨b, o, none⟩ u := rfl
section
variable {P : Program}
theorem own_at_box (t : TypeId) {x : Operand} {ops : Array Oper} {rest : List Oper} {d : Option Tmp} {t' : TypeId} {p : String} {af : Array Edge} {a : Act} {w : World} {Q : Exit → Act → World → Prop}
    (h : wpList P ops Q ({ dst := d, op := .box t x, type := t', pos := p, after := af, guard := none } :: rest) a w) : wpList P ops Q ({ dst := d, op := .box t x, type := t', pos := p, after := af, guard := none } :: rest) a w := h
theorem own_at_alloc (t : TypeId) {ops : Array Oper} {rest : List Oper} {d : Option Tmp} {t' : TypeId} {p : String} {af : Array Edge} {a : Act} {w : World} {Q : Exit → Act → World → Prop}
    (h : wpList P ops Q ({ dst := d, op := .alloc t, type := t', pos := p, after := af, guard := none } :: rest) a w) : wpList P ops Q ({ dst := d, op := .alloc t, type := t', pos := p, after := af, guard := none } :: rest) a w := h
theorem own_at_store (t : TypeId) {x y : Operand} {ops : Array Oper} {rest : List Oper} {d : Option Tmp} {t' : TypeId} {p : String} {af : Array Edge} {a : Act} {w : World} {Q : Exit → Act → World → Prop}
    (h : wpList P ops Q ({ dst := d, op := .store t x y, type := t', pos := p, after := af, guard := none } :: rest) a w) : wpList P ops Q ({ dst := d, op := .store t x y, type := t', pos := p, after := af, guard := none } :: rest) a w := h
theorem own_at_load (t : TypeId) {x : Operand} {ops : Array Oper} {rest : List Oper} {d : Option Tmp} {t' : TypeId} {p : String} {af : Array Edge} {g : Option (Nat × Bool)} {a : Act} {w : World} {Q : Exit → Act → World → Prop}
    (h : wpList P ops Q ({ dst := d, op := .load t x, type := t', pos := p, after := af, guard := g } :: rest) a w) : wpList P ops Q ({ dst := d, op := .load t x, type := t', pos := p, after := af, guard := g } :: rest) a w := h
theorem run_own_box (w : World) (t : TypeId) (v : Value) (cs : List Value) (hc : v.cells = cs.toArray) : (Instr.box t v).run P w = .ok (.pointer (some ⟨w.heap.size, 0, none⟩)) (w.alloc (.cells cs.toArray t)) := by
  simp [Instr.box, newVar, hc, go_sem]
  exact congrArg (fun c => w.alloc (.cells c t)) hc
theorem run_own_alloc (w : World) (t : TypeId) (cs : List Value) (z : Value) (hz : (zeroValue t).run P w = .ok z w) (hc : z.cells = cs.toArray) : (Instr.alloc t true (.tuple #[])).run P w = .ok (.pointer (some ⟨w.heap.size, 0, none⟩)) (w.alloc (.cells cs.toArray t)) := by
  simp [Instr.alloc, newVar, hc, hz, go_sem]
  exact congrArg (fun c => w.alloc (.cells c t)) hc
/-- A struct (or a value of one cell) laid in a variable of its own. -/
theorem wp_own_box {a0 : World} {op : Oper} {a : Act} {w : World} {K : Act → World → Prop} {Q : Exit → Act → World → Prop} (t : TypeId) (x : Operand) (ho : op.op = .box t x)
    {L : List (Nat × List Value)} {R : List (Nat × Nat × List Value)} (HO : Own a0 w L R) (v : Value) (hx : a.eval x = v) (cs : List Value) (hc : v.cells = cs.toArray)
    (h : ∀ (n : Nat) (W : World), Own a0 W (L ++ [(n, cs)]) R → K (a.put op.dst (.pointer (some ⟨n, 0, none⟩))) W) : op.wp P a w K Q := by
  have HN := HO.alloc cs.toArray t
  have := h _ _ HN
  unfold Oper.wp execOp
  simp only [ho, hx, Sem.run_bind, Sem.run_pure, Result.andThen_ok, run_own_box w t v cs hc]
  exact this
theorem wpList_own_box {a0 : World} {ops : Array Oper} {rest : List Oper} {op : Oper} {a : Act} {w : World} {Q : Exit → Act → World → Prop} (hgd : op.guard = none) (t : TypeId) (x : Operand) (ho : op.op = .box t x)
    {L : List (Nat × List Value)} {R : List (Nat × Nat × List Value)} (HO : Own a0 w L R) (v : Value) (hx : a.eval x = v) (cs : List Value) (hc : v.cells = cs.toArray)
    (h : ∀ (n : Nat) (W : World), Own a0 W (L ++ [(n, cs)]) R → wpList P ops Q rest (a.put op.dst (.pointer (some ⟨n, 0, none⟩))) W) : wpList P ops Q (op :: rest) a w :=
  wpList_plain hgd fun _ hK => wp_own_box t x ho HO v hx cs hc (fun n W hW => hK _ _ (h n W hW))
/-- A variable of a zero value. -/
theorem wp_own_alloc {a0 : World} {op : Oper} {a : Act} {w : World} {K : Act → World → Prop} {Q : Exit → Act → World → Prop} (t : TypeId) (ho : op.op = .alloc t)
    {L : List (Nat × List Value)} {R : List (Nat × Nat × List Value)} (HO : Own a0 w L R) (z : Value) (hz : ∀ W, (zeroValue t).run P W = .ok z W) (cs : List Value) (hc : z.cells = cs.toArray)
    (h : ∀ (n : Nat) (W : World), Own a0 W (L ++ [(n, cs)]) R → K (a.put op.dst (.pointer (some ⟨n, 0, none⟩))) W) : op.wp P a w K Q := by
  have HN := HO.alloc cs.toArray t
  have := h _ _ HN
  unfold Oper.wp execOp
  simp only [ho, Sem.run_bind, Sem.run_pure, Result.andThen_ok, run_own_alloc w t cs z (hz w) hc]
  exact this
theorem wpList_own_alloc {a0 : World} {ops : Array Oper} {rest : List Oper} {op : Oper} {a : Act} {w : World} {Q : Exit → Act → World → Prop} (hgd : op.guard = none) (t : TypeId) (ho : op.op = .alloc t)
    {L : List (Nat × List Value)} {R : List (Nat × Nat × List Value)} (HO : Own a0 w L R) (z : Value) (hz : ∀ W, (zeroValue t).run P W = .ok z W) (cs : List Value) (hc : z.cells = cs.toArray)
    (h : ∀ (n : Nat) (W : World), Own a0 W (L ++ [(n, cs)]) R → wpList P ops Q rest (a.put op.dst (.pointer (some ⟨n, 0, none⟩))) W) : wpList P ops Q (op :: rest) a w :=
  wpList_plain hgd fun _ hK => wp_own_alloc t ho HO z hz cs hc (fun n W hW => hK _ _ (h n W hW))
theorem Own.range {a w : World} {L : List (Nat × List Value)} {R : List (Nat × Nat × List Value)} (h : Own a w L R) {k b : Nat} {vs : List Value} (hk : L[k]? = some (b, vs)) (o : Nat) (cs : List Value) (hs : (vs.drop o).take cs.length = cs) : w.rangeAt b o cs := by
  intro j v hj
  have hjl : j < cs.length := (List.getElem?_eq_some_iff.1 hj).1
  refine (h.blk k b vs hk).cell (o + j) ?_
  rw [← hs, List.getElem?_take_of_lt hjl, List.getElem?_drop] at hj
  exact hj
theorem Own.there {a w : World} {L : List (Nat × List Value)} {R : List (Nat × Nat × List Value)} (h : Own a w L R) {k b : Nat} {vs : List Value} (hk : L[k]? = some (b, vs)) (o n : Nat) (hs : o + n ≤ vs.length) : w.there b o n := fun j hj =>
  ⟨by rw [(h.blk k b vs hk).cell (o + j) (List.getElem?_eq_getElem (by omega))]; rfl, (h.blk k b vs hk).froz (o + j) (List.getElem?_eq_getElem (by omega))⟩
/-- A whole struct (or a part that is one) is read. -/
theorem wp_own_load {a0 : World} {op : Oper} {a : Act} {w : World} {K : Act → World → Prop} {Q : Exit → Act → World → Prop} (ty : TypeId) (x : Operand) (ho : op.op = .load ty x)
    {L : List (Nat × List Value)} {R : List (Nat × Nat × List Value)} (HO : Own a0 w L R) (k b o : Nat) (vs cs : List Value) (d : TypeDesc) (hx : a.eval x = .pointer (some ⟨b, o, none⟩)) (hk : L[k]? = some (b, vs)) (hs : (vs.drop o).take cs.length = cs)
    (hu : P.underlying ty = some d) (hd : d.isRow = true) (hi : (P.info? ty).map (·.size) = some cs.length)
    (h : K (a.put op.dst (.agg cs.toArray)) w) : op.wp P a w K Q :=
  wp_load_mid ty x ho b o hx cs d (HO.range hk o cs hs) hu hd hi h
theorem wpList_own_load {a0 : World} {ops : Array Oper} {rest : List Oper} {op : Oper} {a : Act} {w : World} {Q : Exit → Act → World → Prop} (hgd : Region.wanted op (yielded ops a.tmps) = true) (ty : TypeId) (x : Operand) (ho : op.op = .load ty x)
    {L : List (Nat × List Value)} {R : List (Nat × Nat × List Value)} (HO : Own a0 w L R) (k b o : Nat) (vs cs : List Value) (d : TypeDesc) (hx : a.eval x = .pointer (some ⟨b, o, none⟩)) (hk : L[k]? = some (b, vs)) (hs : (vs.drop o).take cs.length = cs)
    (hu : P.underlying ty = some d) (hd : d.isRow = true) (hi : (P.info? ty).map (·.size) = some cs.length)
    (h : wpList P ops Q rest (a.put op.dst (.agg cs.toArray)) w) : wpList P ops Q (op :: rest) a w :=
  BigFrame.wpList_want hgd fun _ hK => wp_own_load ty x ho HO k b o vs cs d hx hk hs hu hd hi (hK _ _ h)
/-- A whole struct (or a part that is one) is written. -/
theorem wp_own_store {a0 : World} {op : Oper} {a : Act} {w : World} {K : Act → World → Prop} {Q : Exit → Act → World → Prop} (ty : TypeId) (x y : Operand) (ho : op.op = .store ty x y)
    {L : List (Nat × List Value)} {R : List (Nat × Nat × List Value)} (HO : Own a0 w L R) (k b o : Nat) (vs us : List Value) (hx : a.eval x = .pointer (some ⟨b, o, none⟩)) (hy : a.eval y = .agg us.toArray) (hk : L[k]? = some (b, vs)) (hl : o + us.length ≤ vs.length)
    (hi : (P.info? ty).map (·.size) = some us.length) (h1 : us.all (·.oneCell') = true) (ws : List Value) (hw : patch vs o us = ws)
    (h : ∀ W : World, Own a0 W (L.set k (b, ws)) R → K (a.put op.dst undef) W) : op.wp P a w K Q := by
  subst hw
  exact wp_store_mid ty x y ho b o us.toArray hx hy (HO.there hk o _ (by rw [List.size_toArray]; exact hl)) (by rw [List.size_toArray]; exact hi) (by rw [List.all_toArray]; exact h1) (h _ (by rw [List.toList_toArray]; exact HO.setCells hk o us hl))
theorem wpList_own_store {a0 : World} {ops : Array Oper} {rest : List Oper} {op : Oper} {a : Act} {w : World} {Q : Exit → Act → World → Prop} (hgd : op.guard = none) (ty : TypeId) (x y : Operand) (ho : op.op = .store ty x y)
    {L : List (Nat × List Value)} {R : List (Nat × Nat × List Value)} (HO : Own a0 w L R) (k b o : Nat) (vs us : List Value) (hx : a.eval x = .pointer (some ⟨b, o, none⟩)) (hy : a.eval y = .agg us.toArray) (hk : L[k]? = some (b, vs)) (hl : o + us.length ≤ vs.length)
    (hi : (P.info? ty).map (·.size) = some us.length) (h1 : us.all (·.oneCell') = true) (ws : List Value) (hw : patch vs o us = ws)
    (h : ∀ W : World, Own a0 W (L.set k (b, ws)) R → wpList P ops Q rest (a.put op.dst undef) W) : wpList P ops Q (op :: rest) a w :=
  wpList_plain hgd fun _ hK => wp_own_store ty x y ho HO k b o vs us hx hy hk hl hi h1 ws hw (fun W hW => hK _ _ (h W hW))
/-- A value of one cell is read. -/
theorem run_own_load1 (w : World) (b o : Nat) (ty : TypeId) (v : Value) (d : TypeDesc) (hc : w.cell? ⟨b, o, none⟩ = some v) (hu : P.underlying ty = some d) (hd : d.isRow = false) :
    (Instr.loadAt ty (.pointer (some ⟨b, o, none⟩))).run P w = .ok v w := by
  have hagg : (isAgg ty).run P w = .ok false w := by
    unfold isAgg
    rw [Sem.run_bind, run_underlying hu w]
    cases d <;> simp_all [TypeDesc.isRow]
  have hl : (load ⟨b, o, none⟩).run P w = .ok v w := by
    simp [hc, go_sem]
  simp only [Instr.loadAt, Instr.sureAddr, loadVar, Sem.run_bind, Sem.run_pure, Result.andThen_ok, hagg, hl]
  simp [hl]
theorem wp_own_load1 {a0 : World} {op : Oper} {a : Act} {w : World} {K : Act → World → Prop} {Q : Exit → Act → World → Prop} (ty : TypeId) (x : Operand) (ho : op.op = .load ty x)
    {L : List (Nat × List Value)} {R : List (Nat × Nat × List Value)} (HO : Own a0 w L R) (k b o : Nat) (vs : List Value) (v : Value) (d : TypeDesc) (hx : a.eval x = .pointer (some ⟨b, o, none⟩)) (hk : L[k]? = some (b, vs)) (hs : vs[o]? = some v)
    (hu : P.underlying ty = some d) (hd : d.isRow = false)
    (h : K (a.put op.dst v) w) : op.wp P a w K Q := by
  have hr := run_own_load1 w b o ty v d ((HO.blk k b vs hk).cell o hs) hu hd
  unfold Oper.wp execOp
  simp only [ho, hx, Sem.run_bind, Sem.run_pure, Result.andThen_ok, hr]
  exact h
theorem wpList_own_load1 {a0 : World} {ops : Array Oper} {rest : List Oper} {op : Oper} {a : Act} {w : World} {Q : Exit → Act → World → Prop} (hgd : Region.wanted op (yielded ops a.tmps) = true) (ty : TypeId) (x : Operand) (ho : op.op = .load ty x)
    {L : List (Nat × List Value)} {R : List (Nat × Nat × List Value)} (HO : Own a0 w L R) (k b o : Nat) (vs : List Value) (v : Value) (d : TypeDesc) (hx : a.eval x = .pointer (some ⟨b, o, none⟩)) (hk : L[k]? = some (b, vs)) (hs : vs[o]? = some v)
    (hu : P.underlying ty = some d) (hd : d.isRow = false)
    (h : wpList P ops Q rest (a.put op.dst v) w) : wpList P ops Q (op :: rest) a w :=
  BigFrame.wpList_want hgd fun _ hK => wp_own_load1 ty x ho HO k b o vs v d hx hk hs hu hd (hK _ _ h)
/-- Any value is written. -/
theorem run_own_store (w : World) (b o : Nat) (ty : TypeId) (v : Value) (us : List Value) (hc : v.cells = us.toArray) (ht : w.there b o us.length) (hi : (P.info? ty).map (·.size) = some us.length) (h1 : us.all (·.oneCell') = true) :
    (Instr.storeAt ty (.pointer (some ⟨b, o, none⟩)) v).run P w = .ok () (w.setCells b o us) := by
  have := run_storeCells_cells (P := P) b o us 0 w (fun j hj => by simpa using (ht j hj).1) (fun j hj => by simpa using (ht j hj).2)
    (fun u hu => List.all_eq_true.1 h1 u hu)
  have hsv : (storeVar ty ⟨b, o, none⟩ v).run P w = .ok () (w.setCells b o us) := by
    cases hq : P.info? ty with
    | none => simp [hq] at hi
    | some i =>
      have hs : us.length = i.size := by simp [hq] at hi; omega
      simp only [Nat.add_zero] at this
      simp [storeVar, sizeOf, typeInfo, hq, hc, hs, this]
  simp only [Instr.storeAt, Instr.sureAddr, Sem.run_bind, Sem.run_pure, Result.andThen_ok, hsv]
theorem wp_own_put {a0 : World} {op : Oper} {a : Act} {w : World} {K : Act → World → Prop} {Q : Exit → Act → World → Prop} (ty : TypeId) (x y : Operand) (ho : op.op = .store ty x y)
    {L : List (Nat × List Value)} {R : List (Nat × Nat × List Value)} (HO : Own a0 w L R) (k b o : Nat) (vs us : List Value) (v : Value) (hx : a.eval x = .pointer (some ⟨b, o, none⟩)) (hy : a.eval y = v) (hc : v.cells = us.toArray) (hk : L[k]? = some (b, vs)) (hl : o + us.length ≤ vs.length)
    (hi : (P.info? ty).map (·.size) = some us.length) (h1 : us.all (·.oneCell') = true) (ws : List Value) (hw : patch vs o us = ws)
    (h : ∀ W : World, Own a0 W (L.set k (b, ws)) R → K (a.put op.dst undef) W) : op.wp P a w K Q := by
  subst hw
  have hr := run_own_store w b o ty v us hc (HO.there hk o _ hl) hi h1
  have := h _ (HO.setCells hk o us hl)
  unfold Oper.wp execOp
  simp only [ho, hx, hy, Sem.run_bind, Sem.run_pure, Result.andThen_ok, hr]
  exact this
theorem wpList_own_put {a0 : World} {ops : Array Oper} {rest : List Oper} {op : Oper} {a : Act} {w : World} {Q : Exit → Act → World → Prop} (hgd : op.guard = none) (ty : TypeId) (x y : Operand) (ho : op.op = .store ty x y)
    {L : List (Nat × List Value)} {R : List (Nat × Nat × List Value)} (HO : Own a0 w L R) (k b o : Nat) (vs us : List Value) (v : Value) (hx : a.eval x = .pointer (some ⟨b, o, none⟩)) (hy : a.eval y = v) (hc : v.cells = us.toArray) (hk : L[k]? = some (b, vs)) (hl : o + us.length ≤ vs.length)
    (hi : (P.info? ty).map (·.size) = some us.length) (h1 : us.all (·.oneCell') = true) (ws : List Value) (hw : patch vs o us = ws)
    (h : ∀ W : World, Own a0 W (L.set k (b, ws)) R → wpList P ops Q rest (a.put op.dst undef) W) : wpList P ops Q (op :: rest) a w :=
  wpList_plain hgd fun _ hK => wp_own_put ty x y ho HO k b o vs us v hx hy hc hk hl hi h1 ws hw (fun W hW => hK _ _ (h W hW))
/-- The same, of a whole block; and by length. -/
theorem wpList_own_whole {a0 : World} {ops : Array Oper} {rest : List Oper} {op : Oper} {a : Act} {w : World} {Q : Exit → Act → World → Prop} (hgd : Region.wanted op (yielded ops a.tmps) = true) (ty : TypeId) (x : Operand) (ho : op.op = .load ty x)
    {L : List (Nat × List Value)} {R : List (Nat × Nat × List Value)} (HO : Own a0 w L R) (n : Nat) (d : TypeDesc) (hu : P.underlying ty = some d) (hd : d.isRow = true) (hi : (P.info? ty).map (·.size) = some n) (k b : Nat) (vs : List Value) (hx : a.eval x = .pointer (some ⟨b, 0, none⟩)) (hk : L[k]? = some (b, vs)) (hn : vs.length = n)
    (h : wpList P ops Q rest (a.put op.dst (.agg vs.toArray)) w) : wpList P ops Q (op :: rest) a w :=
  wpList_own_load hgd ty x ho HO k b 0 vs vs d hx hk (by rw [List.drop_zero, List.take_length]) hu hd (by rw [hn]; exact hi) h
theorem wpList_own_part {a0 : World} {ops : Array Oper} {rest : List Oper} {op : Oper} {a : Act} {w : World} {Q : Exit → Act → World → Prop} (hgd : Region.wanted op (yielded ops a.tmps) = true) (ty : TypeId) (x : Operand) (ho : op.op = .load ty x)
    {L : List (Nat × List Value)} {R : List (Nat × Nat × List Value)} (HO : Own a0 w L R) (n : Nat) (d : TypeDesc) (hu : P.underlying ty = some d) (hd : d.isRow = true) (hi : (P.info? ty).map (·.size) = some n) (k b o : Nat) (vs cs : List Value) (hx : a.eval x = .pointer (some ⟨b, o, none⟩)) (hk : L[k]? = some (b, vs)) (hs : (vs.drop o).take n = cs) (hn : cs.length = n)
    (h : wpList P ops Q rest (a.put op.dst (.agg cs.toArray)) w) : wpList P ops Q (op :: rest) a w :=
  wpList_own_load hgd ty x ho HO k b o vs cs d hx hk (by rw [hn]; exact hs) hu hd (by rw [hn]; exact hi) h
theorem wpList_own_putAll {a0 : World} {ops : Array Oper} {rest : List Oper} {op : Oper} {a : Act} {w : World} {Q : Exit → Act → World → Prop} (hgd : op.guard = none) (ty : TypeId) (x y : Operand) (ho : op.op = .store ty x y)
    {L : List (Nat × List Value)} {R : List (Nat × Nat × List Value)} (HO : Own a0 w L R) (n : Nat) (hi : (P.info? ty).map (·.size) = some n) (k b : Nat) (vs us : List Value) (v : Value) (hx : a.eval x = .pointer (some ⟨b, 0, none⟩)) (hk : L[k]? = some (b, vs)) (hy : a.eval y = v) (hc : v.cells = us.toArray) (hl : vs.length = n) (hl' : us.length = n)
    (h1 : us.all (·.oneCell') = true)
    (h : ∀ W : World, Own a0 W (L.set k (b, us)) R → wpList P ops Q rest (a.put op.dst undef) W) : wpList P ops Q (op :: rest) a w :=
  wpList_own_put hgd ty x y ho HO k b 0 vs us v hx hy hc hk (by omega) (by rw [hl']; exact hi) h1 us (by unfold patch; rw [List.take_zero, List.nil_append, Nat.zero_add, List.drop_of_length_le (by omega), List.append_nil]) h
theorem wpList_own_putPart {a0 : World} {ops : Array Oper} {rest : List Oper} {op : Oper} {a : Act} {w : World} {Q : Exit → Act → World → Prop} (hgd : op.guard = none) (ty : TypeId) (x y : Operand) (ho : op.op = .store ty x y)
    {L : List (Nat × List Value)} {R : List (Nat × Nat × List Value)} (HO : Own a0 w L R) (n : Nat) (hi : (P.info? ty).map (·.size) = some n) (k b o : Nat) (vs us : List Value) (v : Value) (hx : a.eval x = .pointer (some ⟨b, o, none⟩)) (hk : L[k]? = some (b, vs)) (hy : a.eval y = v) (hc : v.cells = us.toArray) (hl' : us.length = n) (ws : List Value) (hw : vs.take o ++ us ++ vs.drop (o + n) = ws) (hon : o + n ≤ vs.length)
    (h1 : us.all (·.oneCell') = true)
    (h : ∀ W : World, Own a0 W (L.set k (b, ws)) R → wpList P ops Q rest (a.put op.dst undef) W) : wpList P ops Q (op :: rest) a w :=
  wpList_own_put hgd ty x y ho HO k b o vs us v hx hy hc hk (by omega) (by rw [hl']; exact hi) h1 ws (by unfold patch; rw [hl']; exact hw) h
/-- The same for structs: the value stands as '.agg cs.toArray'. -/
theorem wpList_own_boxS {a0 : World} {ops : Array Oper} {rest : List Oper} {op : Oper} {a : Act} {w : World} {Q : Exit → Act → World → Prop} (hgd : op.guard = none) (t : TypeId) (x : Operand) (ho : op.op = .box t x)
    {L : List (Nat × List Value)} {R : List (Nat × Nat × List Value)} (HO : Own a0 w L R) (cs : List Value) (hx : a.eval x = .agg cs.toArray)
    (h : ∀ (n : Nat) (W : World), Own a0 W (L ++ [(n, cs)]) R → wpList P ops Q rest (a.put op.dst (.pointer (some ⟨n, 0, none⟩))) W) : wpList P ops Q (op :: rest) a w :=
  wpList_own_box hgd t x ho HO _ hx cs rfl h
theorem wpList_own_allocS {a0 : World} {ops : Array Oper} {rest : List Oper} {op : Oper} {a : Act} {w : World} {Q : Exit → Act → World → Prop} (hgd : op.guard = none) (t : TypeId) (ho : op.op = .alloc t)
    {L : List (Nat × List Value)} {R : List (Nat × Nat × List Value)} (HO : Own a0 w L R) (cs : List Value) (hz : ∀ W, (zeroValue t).run P W = .ok (.agg cs.toArray) W)
    (h : ∀ (n : Nat) (W : World), Own a0 W (L ++ [(n, cs)]) R → wpList P ops Q rest (a.put op.dst (.pointer (some ⟨n, 0, none⟩))) W) : wpList P ops Q (op :: rest) a w :=
  wpList_own_alloc hgd t ho HO _ hz cs rfl h
theorem wpList_own_putAllS {a0 : World} {ops : Array Oper} {rest : List Oper} {op : Oper} {a : Act} {w : World} {Q : Exit → Act → World → Prop} (hgd : op.guard = none) (ty : TypeId) (x y : Operand) (ho : op.op = .store ty x y)
    {L : List (Nat × List Value)} {R : List (Nat × Nat × List Value)} (HO : Own a0 w L R) (n : Nat) (hi : (P.info? ty).map (·.size) = some n) (k b : Nat) (vs us : List Value) (hx : a.eval x = .pointer (some ⟨b, 0, none⟩)) (hk : L[k]? = some (b, vs)) (hl : vs.length = n) (hy : a.eval y = .agg us.toArray) (hl' : us.length = n)
    (h1 : us.all (·.oneCell') = true)
    (h : ∀ W : World, Own a0 W (L.set k (b, us)) R → wpList P ops Q rest (a.put op.dst undef) W) : wpList P ops Q (op :: rest) a w :=
  wpList_own_putAll hgd ty x y ho HO n hi k b vs us _ hx hk hy rfl hl hl' h1 h
theorem wpList_own_putPartS {a0 : World} {ops : Array Oper} {rest : List Oper} {op : Oper} {a : Act} {w : World} {Q : Exit → Act → World → Prop} (hgd : op.guard = none) (ty : TypeId) (x y : Operand) (ho : op.op = .store ty x y)
    {L : List (Nat × List Value)} {R : List (Nat × Nat × List Value)} (HO : Own a0 w L R) (n : Nat) (hi : (P.info? ty).map (·.size) = some n) (k b o : Nat) (vs us : List Value) (hx : a.eval x = .pointer (some ⟨b, o, none⟩)) (hk : L[k]? = some (b, vs)) (hy : a.eval y = .agg us.toArray) (hl' : us.length = n) (ws : List Value) (hw : vs.take o ++ us ++ vs.drop (o + n) = ws) (hon : o + n ≤ vs.length)
    (h1 : us.all (·.oneCell') = true)
    (h : ∀ W : World, Own a0 W (L.set k (b, ws)) R → wpList P ops Q rest (a.put op.dst undef) W) : wpList P ops Q (op :: rest) a w :=
  wpList_own_putPart hgd ty x y ho HO n hi k b o vs us _ hx hk hy rfl hl' ws hw hon h1 h
/-! In a region that draws its order. -/
theorem blk_range {w : World} {b : Nat} {vs : List Value} (h : Blk w b vs) (o : Nat) (cs : List Value) (hs : (vs.drop o).take cs.length = cs) : w.rangeAt b o cs := by
  intro j v hj
  have hjl : j < cs.length := (List.getElem?_eq_some_iff.1 hj).1
  refine h.cell (o + j) ?_
  rw [← hs, List.getElem?_take_of_lt hjl, List.getElem?_drop] at hj
  exact hj
theorem yieldsIf_own_load1 {ops : Array Oper} {S : World → Prop} {op : Oper} {a : Act} (hw : Region.wanted op (yielded ops a.tmps) = true) (ty : TypeId) (x : Operand) (ho : op.op = .load ty x)
    (b o : Nat) (hx : a.eval x = .pointer (some ⟨b, o, none⟩)) (v : Value) (d : TypeDesc) (hS : ∀ w, S w → w.cell? ⟨b, o, none⟩ = some v)
    (hu : P.underlying ty = some d) (hd : d.isRow = false) : YieldsIf P ops S op v a :=
  .inl ⟨hw, fun w hw' => by
    have hr := run_own_load1 w b o ty v d (hS w hw') hu hd
    unfold execOp
    simp only [ho, hx, Sem.run_bind, Sem.run_pure, Result.andThen_ok, hr]⟩
theorem wp_own_allocS {a0 : World} {op : Oper} {a : Act} {w : World} {K : Act → World → Prop} {Q : Exit → Act → World → Prop} (t : TypeId) (ho : op.op = .alloc t)
    {L : List (Nat × List Value)} {R : List (Nat × Nat × List Value)} (HO : Own a0 w L R) (cs : List Value) (hz : ∀ W, (zeroValue t).run P W = .ok (.agg cs.toArray) W)
    (h : ∀ (n : Nat) (W : World), Own a0 W (L ++ [(n, cs)]) R → K (a.put op.dst (.pointer (some ⟨n, 0, none⟩))) W) : op.wp P a w K Q :=
  wp_own_alloc t ho HO _ hz cs rfl h
theorem wp_own_storeS {a0 : World} {op : Oper} {a : Act} {w : World} {K : Act → World → Prop} {Q : Exit → Act → World → Prop} (ty : TypeId) (x y : Operand) (ho : op.op = .store ty x y)
    {L : List (Nat × List Value)} {R : List (Nat × Nat × List Value)} (HO : Own a0 w L R) (n : Nat) (hi : (P.info? ty).map (·.size) = some n) (k b o : Nat) (vs us : List Value) (hx : a.eval x = .pointer (some ⟨b, o, none⟩)) (hk : L[k]? = some (b, vs)) (hy : a.eval y = .agg us.toArray) (hl' : us.length = n) (ws : List Value) (hw : vs.take o ++ us ++ vs.drop (o + n) = ws) (hon : o + n ≤ vs.length)
    (h1 : us.all (·.oneCell') = true)
    (h : ∀ W : World, Own a0 W (L.set k (b, ws)) R → K (a.put op.dst undef) W) : op.wp P a w K Q :=
  wp_own_put ty x y ho HO k b o vs us _ hx hy rfl hk (by omega) (by rw [hl']; exact hi) h1 ws (by unfold patch; rw [hl']; exact hw) h
theorem wp_own_store1 {a0 : World} {op : Oper} {a : Act} {w : World} {K : Act → World → Prop} {Q : Exit → Act → World → Prop} (ty : TypeId) (x y : Operand) (ho : op.op = .store ty x y)
    {L : List (Nat × List Value)} {R : List (Nat × Nat × List Value)} (HO : Own a0 w L R) (hi : (P.info? ty).map (·.size) = some 1) (k b o : Nat) (vs : List Value) (u : Value) (hx : a.eval x = .pointer (some ⟨b, o, none⟩)) (hk : L[k]? = some (b, vs)) (hy : a.eval y = u) (hc : u.cells = #[u]) (ws : List Value) (hw : vs.take o ++ [u] ++ vs.drop (o + 1) = ws) (hon : o + 1 ≤ vs.length)
    (h1 : [u].all (·.oneCell') = true)
    (h : ∀ W : World, Own a0 W (L.set k (b, ws)) R → K (a.put op.dst undef) W) : op.wp P a w K Q :=
  wp_own_put ty x y ho HO k b o vs [u] u hx hy hc hk hon hi h1 ws (by unfold patch; exact hw) h
/-! Lists by relations: what a tactic finds step by step. -/
inductive Snoc {β : Type} : List β → β → List β → Prop where
  | nil {x : β} : Snoc [] x [x]
  | cons {y x : β} {L L' : List β} : Snoc L x L' → Snoc (y :: L) x (y :: L')
theorem Snoc.eq {β : Type} {L L' : List β} {x : β} (h : Snoc L x L') : L ++ [x] = L' := by
  induction h with
  | nil => rfl
  | cons _ ih => rw [List.cons_append, ih]
inductive Upd : List (Nat × List Value) → Nat → List Value → List Value → List (Nat × List Value) → Prop where
  | head {b : Nat} {vs ws : List Value} {L : List (Nat × List Value)} : Upd ((b, vs) :: L) b vs ws ((b, ws) :: L)
  | tail {b : Nat} {vs ws : List Value} {x : Nat × List Value} {L L' : List (Nat × List Value)} : Upd L b vs ws L' → Upd (x :: L) b vs ws (x :: L')
theorem Upd.eq {L L' : List (Nat × List Value)} {b : Nat} {vs ws : List Value} (h : Upd L b vs ws L') : ∃ k : Nat, L[k]? = some (b, vs) ∧ L.set k (b, ws) = L' := by
  induction h with
  | head => exact ⟨0, rfl, rfl⟩
  | tail _ ih =>
    obtain ⟨k, h1, h2⟩ := ih
    exact ⟨k + 1, by simpa using h1, by rw [List.set_cons_succ, h2]⟩
inductive Part : List Value → Nat → Nat → List Value → Prop where
  | done {vs : List Value} : Part vs 0 0 []
  | take {v : Value} {vs cs : List Value} {n : Nat} : Part vs 0 n cs → Part (v :: vs) 0 (n + 1) (v :: cs)
  | skip {v : Value} {vs cs : List Value} {o n : Nat} : Part vs o n cs → Part (v :: vs) (o + 1) n cs
theorem Part.eq {vs cs : List Value} {o n : Nat} (h : Part vs o n cs) : (vs.drop o).take n = cs ∧ cs.length = n := by
  induction h with
  | done => simp
  | take _ ih => simp only [List.drop_zero] at ih; simp [ih.1, ih.2]
  | skip _ ih => simpa using ih
theorem Part.one {vs : List Value} {o : Nat} {v : Value} (h : Part vs o 1 [v]) : vs[o]? = some v := by
  have e := h.eq.1
  have e' : ((vs.drop o).take 1)[0]? = some v := by rw [e]; rfl
  rw [List.getElem?_take_of_lt (by omega), List.getElem?_drop] at e'
  exact e'
inductive Patch : List Value → Nat → List Value → List Value → Prop where
  | done {vs : List Value} : Patch vs 0 [] vs
  | put {v u : Value} {vs us ws : List Value} : Patch vs 0 us ws → Patch (v :: vs) 0 (u :: us) (u :: ws)
  | skip {v : Value} {vs us ws : List Value} {o : Nat} : Patch vs o us ws → Patch (v :: vs) (o + 1) us (v :: ws)
theorem Patch.eq {vs us ws : List Value} {o : Nat} (h : Patch vs o us ws) : vs.take o ++ us ++ vs.drop (o + us.length) = ws ∧ o + us.length ≤ vs.length := by
  induction h with
  | done => simp
  | put _ ih =>
    obtain ⟨h1, h2⟩ := ih
    simp only [List.take_zero, List.nil_append, Nat.zero_add] at h1 h2 ⊢
    refine ⟨?_, by simp only [List.length_cons]; omega⟩
    rw [List.length_cons, List.drop_succ_cons, List.cons_append, h1]
  | skip _ ih =>
    obtain ⟨h1, h2⟩ := ih
    refine ⟨?_, by simp only [List.length_cons]; omega⟩
    rw [Nat.add_right_comm, List.drop_succ_cons, List.take_succ_cons, List.cons_append, List.cons_append, h1]
theorem mem_at {L : List (Nat × List Value)} {b : Nat} {vs : List Value} (h : (b, vs) ∈ L) : ∃ k : Nat, L[k]? = some (b, vs) := by
  obtain ⟨k, hk, he⟩ := List.getElem_of_mem h
  exact ⟨k, by rw [List.getElem?_eq_getElem hk, he]⟩
inductive Has : List (Nat × List Value) → Nat → List Value → Prop where
  | head {b : Nat} {vs : List Value} {L : List (Nat × List Value)} : Has ((b, vs) :: L) b vs
  | tail {b : Nat} {vs : List Value} {x : Nat × List Value} {L : List (Nat × List Value)} : Has L b vs → Has (x :: L) b vs
theorem Has.mem {L : List (Nat × List Value)} {b : Nat} {vs : List Value} (h : Has L b vs) : (b, vs) ∈ L := by
  induction h with
  | head => exact List.mem_cons_self
  | tail _ ih => exact List.mem_cons_of_mem _ ih
inductive Sto : List (Nat × List Value) → Nat → Nat → List Value → List (Nat × List Value) → Prop where
  | head {b o : Nat} {vs us ws : List Value} {L : List (Nat × List Value)} : Patch vs o us ws → Sto ((b, vs) :: L) b o us ((b, ws) :: L)
  | tail {b o : Nat} {us : List Value} {x : Nat × List Value} {L L' : List (Nat × List Value)} : Sto L b o us L' → Sto (x :: L) b o us (x :: L')
theorem Sto.eq {L L' : List (Nat × List Value)} {b o : Nat} {us : List Value} (h : Sto L b o us L') : ∃ vs ws : List Value, Patch vs o us ws ∧ Upd L b vs ws L' := by
  induction h with
  | head hp => exact ⟨_, _, hp, .head⟩
  | tail _ ih =>
    obtain ⟨vs, ws, h1, h2⟩ := ih
    exact ⟨vs, ws, h1, .tail h2⟩
section
variable {a0 : World} {ops : Array Oper} {rest : List Oper} {op : Oper} {a : Act} {w : World} {Q : Exit → Act → World → Prop} {L L' : List (Nat × List Value)} {R : List (Nat × Nat × List Value)}
theorem ownBox (hgd : op.guard = none) (t : TypeId) (x : Operand) (ho : op.op = .box t x) (HO : Own a0 w L R) (v : Value) (hx : a.eval x = v) (cs : List Value) (hc : v.cells = cs.toArray)
    (h : ∀ (n : Nat) (W : World), Own a0 W (L ++ [(n, cs)]) R → wpList P ops Q rest (a.put op.dst (.pointer (some ⟨n, 0, none⟩))) W) : wpList P ops Q (op :: rest) a w :=
  wpList_own_box hgd t x ho HO v hx cs hc h
theorem ownAlloc (hgd : op.guard = none) (t : TypeId) (ho : op.op = .alloc t) (HO : Own a0 w L R) (z : Value) (hz : ∀ W, (zeroValue t).run P W = .ok z W) (cs : List Value) (hc : z.cells = cs.toArray)
    (h : ∀ (n : Nat) (W : World), Own a0 W (L ++ [(n, cs)]) R → wpList P ops Q rest (a.put op.dst (.pointer (some ⟨n, 0, none⟩))) W) : wpList P ops Q (op :: rest) a w :=
  wpList_own_alloc hgd t ho HO z hz cs hc h
theorem ownLoad (hw : Region.wanted op (yielded ops a.tmps) = true) (ty : TypeId) (x : Operand) (ho : op.op = .load ty x) (HO : Own a0 w L R) (n : Nat) (d : TypeDesc) (hu : P.underlying ty = some d) (hd : d.isRow = true) (hi : (P.info? ty).map (·.size) = some n)
    (b : Nat) (vs : List Value) (hx : a.eval x = .pointer (some ⟨b, 0, none⟩)) (hm : (b, vs) ∈ L) (hn : vs.length = n) (h : wpList P ops Q rest (a.put op.dst (.agg vs.toArray)) w) : wpList P ops Q (op :: rest) a w := by
  obtain ⟨k, hk⟩ := mem_at hm
  exact wpList_own_whole hw ty x ho HO n d hu hd hi k b vs hx hk hn h
theorem ownPart (hw : Region.wanted op (yielded ops a.tmps) = true) (ty : TypeId) (x : Operand) (ho : op.op = .load ty x) (HO : Own a0 w L R) (n : Nat) (d : TypeDesc) (hu : P.underlying ty = some d) (hd : d.isRow = true) (hi : (P.info? ty).map (·.size) = some n)
    (b o : Nat) (vs cs : List Value) (hx : a.eval x = .pointer (some ⟨b, o, none⟩)) (hm : (b, vs) ∈ L) (hp : Part vs o n cs) (h : wpList P ops Q rest (a.put op.dst (.agg cs.toArray)) w) : wpList P ops Q (op :: rest) a w := by
  obtain ⟨k, hk⟩ := mem_at hm
  exact wpList_own_part hw ty x ho HO n d hu hd hi k b o vs cs hx hk hp.eq.1 hp.eq.2 h
theorem ownLoad1 (hw : Region.wanted op (yielded ops a.tmps) = true) (ty : TypeId) (x : Operand) (ho : op.op = .load ty x) (HO : Own a0 w L R) (d : TypeDesc) (hu : P.underlying ty = some d) (hd : d.isRow = false)
    (b o : Nat) (vs : List Value) (v : Value) (hx : a.eval x = .pointer (some ⟨b, o, none⟩)) (hm : (b, vs) ∈ L) (hv : vs[o]? = some v) (h : wpList P ops Q rest (a.put op.dst v) w) : wpList P ops Q (op :: rest) a w := by
  obtain ⟨k, hk⟩ := mem_at hm
  exact wpList_own_load1 hw ty x ho HO k b o vs v d hx hk hv hu hd h
theorem ownPut (hgd : op.guard = none) (ty : TypeId) (x y : Operand) (ho : op.op = .store ty x y) (HO : Own a0 w L R) (n : Nat) (hi : (P.info? ty).map (·.size) = some n)
    (v : Value) (us : List Value) (hy : a.eval y = v) (hc : v.cells = us.toArray) (hl : us.length = n) (b o : Nat) (vs ws : List Value) (hx : a.eval x = .pointer (some ⟨b, o, none⟩)) (hu : Upd L b vs ws L') (hp : Patch vs o us ws)
    (h1 : us.all (·.oneCell') = true) (h : ∀ W : World, Own a0 W L' R → wpList P ops Q rest (a.put op.dst undef) W) : wpList P ops Q (op :: rest) a w := by
  obtain ⟨k, hk, rfl⟩ := hu.eq
  have e := hp.eq
  rw [hl] at e
  exact wpList_own_putPart hgd ty x y ho HO n hi k b o vs us v hx hk hy hc hl ws e.1 e.2 h1 h
theorem ownSto (hgd : op.guard = none) (ty : TypeId) (x y : Operand) (ho : op.op = .store ty x y) (HO : Own a0 w L R) (n : Nat) (hi : (P.info? ty).map (·.size) = some n)
    (v : Value) (us : List Value) (hy : a.eval y = v) (hc : v.cells = us.toArray) (hl : us.length = n) (b o : Nat) (hx : a.eval x = .pointer (some ⟨b, o, none⟩)) (hs : Sto L b o us L')
    (h1 : us.all (·.oneCell') = true) (h : ∀ W : World, Own a0 W L' R → wpList P ops Q rest (a.put op.dst undef) W) : wpList P ops Q (op :: rest) a w := by
  obtain ⟨vs, ws, hp, hu⟩ := hs.eq
  exact ownPut hgd ty x y ho HO n hi v us hy hc hl b o vs ws hx hu hp h1 h
end
/-! The function's end, where results lie in variables of its own. -/
theorem run_own_res {a0 : World} {w : World} {L : List (Nat × List Value)} {R : List (Nat × Nat × List Value)} (HO : Own a0 w L R) (k b : Nat) (vs : List Value) (hk : L[k]? = some (b, vs)) (ty : TypeId) (d : TypeDesc) (hu : P.underlying ty = some d) (hd : d.isRow = true) (hi : (P.info? ty).map (·.size) = some vs.length) :
    (loadVar ty ⟨b, 0, none⟩).run P w = .ok (.agg vs.toArray) w :=
  run_loadVar_mid w b 0 ty vs d (HO.range hk 0 vs (by rw [List.drop_zero, List.take_length])) hu hd hi
theorem own_ret_c {fn : Func} {RR : Ending → World → Prop} {a0 : World} {a : Act} {w : World} {L : List (Nat × List Value)} {R : List (Nat × Nat × List Value)} (HO : Own a0 w L R) (p : Tmp) (ty : TypeId) (hres : fn.results = #[.cell p ty])
    (k b : Nat) (vs : List Value) (hp : a.tmps.getD p undef = .pointer (some ⟨b, 0, none⟩)) (hk : L[k]? = some (b, vs)) (d : TypeDesc) (hu : P.underlying ty = some d) (hd : d.isRow = true) (hi : (P.info? ty).map (·.size) = some vs.length)
    (hde : a.defers = []) (h : RR (.returned (.agg vs.toArray)) w) : bodyPost P fn RR .ret a w := by
  have h0 := run_own_res HO k b vs hk ty d hu hd hi
  have hp' : a.tmps[p]?.getD undef = .pointer (some ⟨b, 0, none⟩) := by simpa using hp
  exact bodyPost_ret (v := .agg vs.toArray) (by simp [results, hres, hp', asAddr, h0]) hde h
theorem own_ret_ct {fn : Func} {RR : Ending → World → Prop} {a0 : World} {a : Act} {w : World} {L : List (Nat × List Value)} {R : List (Nat × Nat × List Value)} (HO : Own a0 w L R) (p q : Tmp) (ty : TypeId) (hres : fn.results = #[.cell p ty, .tmp q])
    (k b : Nat) (vs : List Value) (v : Value) (hp : a.tmps.getD p undef = .pointer (some ⟨b, 0, none⟩)) (hq : a.tmps.getD q undef = v) (hk : L[k]? = some (b, vs)) (d : TypeDesc) (hu : P.underlying ty = some d) (hd : d.isRow = true) (hi : (P.info? ty).map (·.size) = some vs.length)
    (hde : a.defers = []) (h : RR (.returned (.tuple #[.agg vs.toArray, v])) w) : bodyPost P fn RR .ret a w := by
  have h0 := run_own_res HO k b vs hk ty d hu hd hi
  have hp' : a.tmps[p]?.getD undef = .pointer (some ⟨b, 0, none⟩) := by simpa using hp
  have hq' : a.tmps[q]?.getD undef = v := by simpa using hq
  exact bodyPost_ret (v := .tuple #[.agg vs.toArray, v]) (by simp [results, hres, hp', hq', asAddr, h0]) hde h
theorem own_ret_cct {fn : Func} {RR : Ending → World → Prop} {a0 : World} {a : Act} {w : World} {L : List (Nat × List Value)} {R : List (Nat × Nat × List Value)} (HO : Own a0 w L R) (p p2 q : Tmp) (ty ty2 : TypeId) (hres : fn.results = #[.cell p ty, .cell p2 ty2, .tmp q])
    (k k2 b b2 : Nat) (vs us : List Value) (v : Value) (hp : a.tmps.getD p undef = .pointer (some ⟨b, 0, none⟩)) (hp2 : a.tmps.getD p2 undef = .pointer (some ⟨b2, 0, none⟩)) (hq : a.tmps.getD q undef = v) (hk : L[k]? = some (b, vs)) (hk2 : L[k2]? = some (b2, us))
    (d d2 : TypeDesc) (hu : P.underlying ty = some d) (hd : d.isRow = true) (hi : (P.info? ty).map (·.size) = some vs.length) (hu2 : P.underlying ty2 = some d2) (hd2 : d2.isRow = true) (hi2 : (P.info? ty2).map (·.size) = some us.length)
    (hde : a.defers = []) (h : RR (.returned (.tuple #[.agg vs.toArray, .agg us.toArray, v])) w) : bodyPost P fn RR .ret a w := by
  have h0 := run_own_res HO k b vs hk ty d hu hd hi
  have h2 := run_own_res HO k2 b2 us hk2 ty2 d2 hu2 hd2 hi2
  have hp' : a.tmps[p]?.getD undef = .pointer (some ⟨b, 0, none⟩) := by simpa using hp
  have hp2' : a.tmps[p2]?.getD undef = .pointer (some ⟨b2, 0, none⟩) := by simpa using hp2
  have hq' : a.tmps[q]?.getD undef = v := by simpa using hq
  exact bodyPost_ret (v := .tuple #[.agg vs.toArray, .agg us.toArray, v]) (by simp [results, hres, hp', hp2', hq', asAddr, h0, h2]) hde h
end
end Go.Proofs.Ytgcedookbblibaa
