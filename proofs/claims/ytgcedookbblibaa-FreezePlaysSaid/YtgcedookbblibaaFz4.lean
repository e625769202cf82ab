/- Layer 39: rows of inputs; copies. -/
import Derived.Test.YtgcedookbblibaaFz3
import Derived.Test.YtgcedookbblibaaRow
namespace Go.Proofs.Ytgcedookbblibaa
open Go Go.RowKit
set_option linter.unusedSimpArgs false
set_option linter.unusedVariables false
theorem inL_len (x : In) : (inL x).length = 6 := rfl
theorem clone_und : Try.prog.underlying 30 = some (.slice 29) := by kernel_rfl
theorem clone_eqNil (a : Option Addr) (n cap : Nat) (w : World) : (binOp .eql 30 (.slice a n cap) (.slice none 0 0)).run Try.prog w = .ok (.bool a.isNone) w := by
  simp [binOp, run_equal_slice_nil w _ _ a n cap clone_und]
theorem clone_info : (Try.prog.info? 29).map (fun i => (i.zero, i.size, i.bytes)) = some (some (.agg #[i6 0, i6 0, i6 0, i6 0, uw 0, i6 0]), 6, 48) := by kernel_rfl
theorem clone_one : ∀ (gs : List _) (u : Value), u ∈ cellsR inL gs → u.oneCell' = true := by
  intro gs u hu
  obtain ⟨x, _, hx⟩ := List.mem_flatMap.1 hu
  simp only [inL, List.mem_cons, List.not_mem_nil, or_false] at hx
  rcases hx with rfl | rfl | rfl | rfl | rfl | rfl <;> rfl
set_option maxRecDepth 100000 in
set_option maxHeartbeats 4000000 in
theorem clone_row (v : Value) (gs : List _) (b off : Nat) (w : World) (hv : RowV v gs.length b off) (hr : cellsR inL gs ≠ [] → b < w.heap.size ∧ w.rangeAt b off (cellsR inL gs)) (hl : gs.length ≤ 100000) :
    Calls Try.prog 23 #[v] w fun e w' => ∃ v', e = .returned v' ∧ w'.ownsRow w.heap.size 29 6 v' gs.length (cellsR inL gs) ∧ Below w.heap.size w w' := by
  obtain ⟨i0, hi, hz0, hz1, hz2⟩ := row_info clone_info
  obtain ⟨A, cap, rfl, hnc, hcm, hA⟩ := hv
  have hlen := cellsR_len (f := inL) inL_len gs
  obtain ⟨n, hn⟩ : ∃ n, gs.length = n := ⟨_, rfl⟩
  rw [hn] at hl hlen hA hnc ⊢
  have HLEN := Lib.hid hlen
  clear hlen
  cases A with
  | none =>
    have h0 : n = 0 := by rcases Nat.eq_zero_or_pos n with h | h; exact h; have := hA h; cases this
    subst h0
    have h1 : gs = [] := List.eq_nil_of_length_eq_zero hn
    subst h1
    have hq := clone_eqNil none 0 cap
    clear hA hr
    go_enter Try.func23, Try.ntmps23
    go_wp2_with fail
    go_returns
    exact ⟨_, rfl, World.ownsRow_nil _ _ _ _, Below.refl _ _⟩
  | some ad =>
    have hcl : ∀ W, Below w.heap.size w W → ∀ j u, (cellsR inL gs)[j]? = some u → W.cell? (ad.add j) = some u := by
      intro W hW j u hj
      have hne : cellsR inL gs ≠ [] := by intro e; rw [e] at hj; simp at hj
      obtain ⟨h1, h2⟩ := hr hne
      have h0 : 0 < n := by
        rcases Nat.eq_zero_or_pos n with h | h
        · subst h; rw [List.eq_nil_of_length_eq_zero hn] at hne; exact absurd rfl hne
        · exact h
      obtain rfl : ad = ⟨b, off, none⟩ := by simpa using hA h0
      have := range_below h1 h2 hW j u hj
      rw [show (⟨b, off, none⟩ : Addr).add j = ⟨b, off + j, none⟩ by unfold Addr.add; split <;> simp_all]
      exact this
    have HCL := Lib.hid hcl
    have HN := Lib.hid hn
    clear hcl hA hr hn
    have hq := clone_eqNil (some ad) n cap
    have hown : (w.alloc (.cells #[] 29)).ownsRow w.heap.size 29 6 (.slice (some ⟨w.heap.size, 0, none⟩) 0 0) 0 [] := World.ownsRow_lit w #[] 0 (Nat.le_refl _) (by decide) rfl
    have HOWN := Lib.hid hown
    clear hown
    go_enter Try.func23, Try.ntmps23
    go_wp2_with (at_builtin; refine wpList_append_own _ rfl _ _ 30 rfl w.heap.size 29 i0 (.agg #[i6 0, i6 0, i6 0, i6 0, uw 0, i6 0]) 6 48 clone_und hi hz0 hz1 hz2 rfl (by decide) _ _ _ rfl HOWN.out ad n cap (cellsR inL gs) rfl HLEN.out (HCL.out _ (by (repeat' (first | with_reducible exact Below.refl _ _ | with_reducible assumption | with_reducible refine q_alloc ?_ _ | with_reducible refine q_drew ?_ | with_reducible refine q_drewN _ ?_ | with_reducible refine q_setCell ?_ ?_ _ | (left; simp; done) | (right; simp; done) | (right; dsimp only; omega) | (left; dsimp only; omega))))) (clone_one gs) ?c3 ?c4 ?c5 ?_)
    case c3 => unfold maxLen; omega
    case c4 => omega
    case c5 => simp
    intro v' w9 hown' hgrow _
    have hb1 : Below w.heap.size w w9 := ((Below.refl w.heap.size w).alloc (Nat.le_refl _) _).grown hgrow (by simp) (fun j hj => by simp [Value.ownBlock] at hj; omega)
    have HO : Hid (w9.ownsRow w.heap.size 29 6 v' n (cellsR inL gs)) := Lib.hid (by simpa using hown')
    clear hown' hgrow
    go_wp2_with fail
    go_returns
    exact ⟨_, rfl, HO.out, hb1⟩
end Go.Proofs.Ytgcedookbblibaa
