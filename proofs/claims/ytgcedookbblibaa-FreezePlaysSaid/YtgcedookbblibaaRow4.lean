/- Rows of structs: a whole row, appended to nil. -/
import Derived.Test.YtgcedookbblibaaRow3
import Derived.Laws.AppendOwnNone
namespace Go.Proofs.Ytgcedookbblibaa
open Go Go.RowKit
set_option linter.unusedSimpArgs false
set_option linter.unusedVariables false
section
variable {P : Program}
theorem wpList_own_appendNil {a0 : World} {ops : Array Oper} {rest : List Oper} {op : Oper} {a : Act} {w : World} {Q : Exit → Act → World → Prop} (hgd : op.guard = none) (s' x : Operand) (t : TypeId)
    (ho : op.op = .call { callee := .builtin .append, args := #[s', x], argTypes := #[t, t] })
    (e : TypeId) (i : TypeInfo) (z : Value) (size bytes : Nat) (ht : P.underlying t = some (.slice e)) (hi : P.info? e = some i) (hz : i.zero = some z)
    (hsize : i.size = size) (hby : i.bytes = bytes) (hzs : z.cells.size = size) (hsz : 0 < size)
    {L : List (Nat × List Value)} {R : List (Nat × Nat × List Value)} (HO : Own a0 w L R) (hs : a.eval s' = .slice none 0 0)
    (A : Option Addr) (n c b o : Nat) (cs : List Value) (hx : a.eval x = .slice A n c) (hA : 0 < n → A = some ⟨b, o, none⟩) (hN : A = none → c = 0) (hk : ∃ k : Nat, R[k]? = some (b, o, cs)) (hlen : cs.length = n * size)
    (h1 : ∀ u ∈ cs, u.oneCell' = true) (h63 : n ≤ maxLen) (hbytes : n * bytes ≤ 140737488355328)
    (h : ∀ v' w', w'.ownsRow w.heap.size e size v' n cs → Below w.heap.size w w' → Own a0 w' L R → wpList P ops Q rest (a.put op.dst v') w') : wpList P ops Q (op :: rest) a w := by
  cases A with
  | none =>
    obtain rfl : n = 0 := by rcases Nat.eq_zero_or_pos n with h0 | h0; exact h0; cases hA h0
    obtain rfl := hN rfl
    obtain rfl : cs = [] := List.eq_nil_of_length_eq_zero (by rw [hlen, Nat.zero_mul])
    have hown : w.ownsRow w.heap.size e size (.slice none 0 0) 0 [] := World.ownsRow_nil _ _ _ _
    exact wpList_append_own_none hgd s' x t ho w.heap.size e i size ht hi _ 0 [] hs hown hx (h _ _ hown (Below.refl _ _) HO)
  | some ad =>
    obtain ⟨k, hk⟩ := hk
    have hcl : ∀ j u, cs[j]? = some u → w.cell? (ad.add j) = some u := by
      intro j u hj
      have hne : cs ≠ [] := by intro e; rw [e] at hj; simp at hj
      have h0 : 0 < n := by
        rcases Nat.eq_zero_or_pos n with h | h
        · subst h; rw [Nat.zero_mul] at hlen; exact absurd (List.eq_nil_of_length_eq_zero hlen) hne
        · exact h
      obtain rfl : ad = ⟨b, o, none⟩ := by simpa using hA h0
      have := (HO.rng k b o cs hk hne).2.1 j u hj
      rw [show (⟨b, o, none⟩ : Addr).add j = ⟨b, o + j, none⟩ by unfold Addr.add; split <;> simp_all]
      exact this
    refine wpList_append_own w hgd s' x t ho w.heap.size e i z size bytes ht hi hz hsize hby hzs hsz (.slice none 0 0) 0 [] hs (World.ownsRow_nil _ _ _ _) ad n c cs hx hlen hcl h1 (by omega) (by rw [Nat.zero_add]; exact hbytes) (Nat.le_refl _) ?_
    intro v' w' h2 h3 _
    rw [Nat.zero_add, List.nil_append] at h2
    exact h v' w' h2 ((Below.refl w.heap.size w).grown h3 (Nat.le_refl _) (fun j hj => by simp [Value.ownBlock] at hj)) (HO.grown h3 (fun q hq => by simp [Value.ownBlock] at hq) (fun q hq => by simp [Value.ownBlock] at hq) (fun q hq => by simp [Value.ownBlock] at hq))
theorem wpList_own_lit1 {a0 : World} {ops : Array Oper} {rest : List Oper} {op : Oper} {a : Act} {w : World} {Q : Exit → Act → World → Prop} (hgd : op.guard = none) (t : TypeId) (x : Operand) (ho : op.op = .buildSlice t 1 #[(0, x)])
    {L : List (Nat × List Value)} {R : List (Nat × Nat × List Value)} (HO : Own a0 w L R) (e : TypeId) (cs : List Value) (hx : a.eval x = .agg cs.toArray)
    (hrun : ∀ W, (Instr.buildSlice t 1 #[(0, .agg cs.toArray)]).run P W = .ok (.slice (some ⟨W.heap.size, 0, none⟩) 1 1) (W.alloc (.cells cs.toArray e)))
    (h : ∀ (n : Nat) (W : World), w.heap.size ≤ n → Below w.heap.size w W → Own a0 W (L ++ [(n, cs)]) R → wpList P ops Q rest (a.put op.dst (.slice (some ⟨n, 0, none⟩) 1 1)) W) : wpList P ops Q (op :: rest) a w :=
  wpList_plain hgd fun _ hK => wp_own_lit t x ho HO e cs hx hrun fun n W h1 h2 h3 => hK _ _ (h n W h1 h2 h3)
theorem wpList_own_append {a0 : World} {ops : Array Oper} {rest : List Oper} {op : Oper} {a : Act} {w : World} {Q : Exit → Act → World → Prop} (hgd : op.guard = none) (s' x : Operand) (t : TypeId)
    (ho : op.op = .call { callee := .builtin .append, args := #[s', x], argTypes := #[t, t] })
    (base : Nat) (e : TypeId) (i : TypeInfo) (z : Value) (size bytes : Nat) (ht : P.underlying t = some (.slice e)) (hi : P.info? e = some i) (hz : i.zero = some z)
    (hsize : i.size = size) (hby : i.bytes = bytes) (hzs : z.cells.size = size) (hsz : 0 < size)
    {L : List (Nat × List Value)} {R : List (Nat × Nat × List Value)} (HO : Own a0 w L R)
    (v : Value) (n : Nat) (xs : List Value) (hs : a.eval s' = v) (hown : w.ownsRow base e size v n xs)
    (k g c : Nat) (news : List Value) (hk : L[k]? = some (g, news)) (hx : a.eval x = .slice (some ⟨g, 0, none⟩) 1 c) (hl : news.length = size) (h1 : news.all (·.oneCell') = true)
    (h63 : n + 1 ≤ maxLen) (hbytes : (n + 1) * bytes ≤ 140737488355328) (hbase : base ≤ w.heap.size) (hba : a0.heap.size ≤ base)
    (hL : ∀ q, v.ownBlock = some q → ∀ (i c : Nat) (vs : List Value), L[i]? = some (c, vs) → c ≠ q) (hR : ∀ q, v.ownBlock = some q → ∀ (k b o : Nat) (cs : List Value), R[k]? = some (b, o, cs) → cs ≠ [] → b ≠ q)
    (h : ∀ v' w', w'.ownsRow base e size v' (n + 1) (xs ++ news) → Own a0 w' L R → wpList P ops Q rest (a.put op.dst v') w') : wpList P ops Q (op :: rest) a w :=
  wpList_plain hgd fun _ hK => wp_own_append s' x t ho base e i z size bytes ht hi hz hsize hby hzs hsz HO v n xs hs hown k g c news hk hx hl h1 h63 hbytes hbase hba hL hR fun v' w' h2 h3 => hK _ _ (h v' w' h2 h3)
end
end Go.Proofs.Ytgcedookbblibaa
