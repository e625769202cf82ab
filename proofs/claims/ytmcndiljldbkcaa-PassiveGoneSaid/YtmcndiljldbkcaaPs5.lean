/- Layer 38: rows of grabs of the call's own; copies; one more grab. -/
import Derived.Test.YtmcndiljldbkcaaPs4
import Derived.Maps.AppendAt
import Derived.Deep.AppendLies
import Derived.Maps.OwnOps
import Derived.Laws.Cover3
import Derived.WalkSpells
import Derived.Lib.LazyBuf
namespace Go.Proofs.Ytmcndiljldbkcaa
open Go Go.RowKit
set_option linter.unusedSimpArgs false
set_option linter.unusedVariables false
def cellsG (gs : List G) : List Value := gs.flatMap gL
theorem gL_len (g : G) : (gL g).length = 9 := rfl
theorem cellsG_len : ∀ gs : List G, (cellsG gs).length = gs.length * 9
  | [] => rfl
  | g :: gs => by
    have := cellsG_len gs
    simp only [cellsG, List.flatMap_cons, List.length_append, List.length_cons, gL_len] at this ⊢
    omega
theorem cellsG_at : ∀ (gs : List G) (k : Nat) (x : G), gs[k]? = some x → ∀ j, j < 9 → (cellsG gs)[k * 9 + j]? = (gL x)[j]?
  | [], k, x, h, j, hj => by simp at h
  | g :: gs, 0, x, h, j, hj => by
    simp at h; subst h
    simp only [cellsG, List.flatMap_cons]
    rw [List.getElem?_append_left (by rw [gL_len]; omega)]; congr 1; omega
  | g :: gs, k + 1, x, h, j, hj => by
    have := cellsG_at gs k x (by simpa using h) j hj
    simp only [cellsG, List.flatMap_cons] at this ⊢
    rw [List.getElem?_append_right (by rw [gL_len]; omega), gL_len, show (k + 1) * 9 + j - 9 = k * 9 + j by omega]
    exact this
theorem cellsG_snoc (gs : List G) (g : G) : cellsG (gs ++ [g]) = cellsG gs ++ gL g := by simp [cellsG]
abbrev OwnG (w : World) (base : Nat) (v : Value) (gs : List G) : Prop := w.ownsRow base 35 9 v gs.length (cellsG gs)
theorem own_sl {w : World} {base : Nat} {e : TypeId} {s n : Nat} {v : Value} {xs : List Value} (h : w.ownsRow base e s v n xs) : ∃ a c, v = .slice a n c := by
  rcases Joins.ownsRow_forms h with ⟨rfl, rfl⟩ | ⟨g, cap, rfl⟩
  · exact ⟨_, _, rfl⟩
  · exact ⟨_, _, rfl⟩
theorem ownG_is {w : World} {base : Nat} {v : Value} {gs : List G} (h : OwnG w base v gs) : IsG w v gs := by
  rcases Nat.eq_zero_or_pos gs.length with h0 | hp
  · have : gs = [] := List.eq_nil_of_length_eq_zero h0
    subst this
    obtain ⟨a, c, rfl⟩ := own_sl h
    exact ⟨a, c, rfl, fun h => by simp at h⟩
  · obtain ⟨g, cap, rfl⟩ := Joins.ownsRow_form h hp
    refine ⟨_, cap, rfl, fun _ => ⟨g, 0, rfl, (h.lt g rfl).2, fun k x hk j u hj => ?_⟩⟩
    have hkl : k < gs.length := (List.getElem?_eq_some_iff.1 hk).1
    have hj9 : j < 9 := by have := (List.getElem?_eq_some_iff.1 hj).1; rw [gL_len] at this; exact this
    rw [Nat.zero_add]
    exact (h.cellAt (k * 9 + j) (by omega)).trans ((cellsG_at gs k x hk j hj9).trans hj)
/-- A table's grabs. -/
def TabG (w : World) (v : Value) (gs : List G) : Prop := (v = .slice none 0 0 ∧ gs = []) ∨ (0 < gs.length ∧ IsG w v gs)
theorem TabG.is {w : World} {v : Value} {gs : List G} (h : TabG w v gs) : IsG w v gs := by
  rcases h with ⟨rfl, rfl⟩ | ⟨_, h⟩
  · exact IsG.nil w
  · exact h
theorem TabG.below {w w' : World} {v : Value} {gs : List G} (h : TabG w v gs) (hb : Below w.heap.size w w') : TabG w' v gs := by
  rcases h with h | ⟨h0, h⟩
  · exact Or.inl h
  · exact Or.inr ⟨h0, h.below hb⟩
theorem tabG_own {w : World} {base : Nat} {v : Value} {gs : List G} (h : OwnG w base v gs) (h0 : 0 < gs.length) : TabG w v gs := Or.inr ⟨h0, ownG_is h⟩
theorem info_parts {z : Value} {t : TypeId} {s b : Nat} (h : (Try.prog.info? t).map (fun i => (i.zero, i.size, i.bytes)) = some (some z, s, b)) : ∃ i, Try.prog.info? t = some i ∧ i.zero = some z ∧ i.size = s ∧ i.bytes = b := by
  obtain ⟨i, hi, hzz⟩ := Option.map_eq_some_iff.1 h
  simp only [Prod.mk.injEq] at hzz
  exact ⟨i, hi, hzz.1, hzz.2.1, hzz.2.2⟩
abbrev zeroG : Value := .agg #[i6 0, u3 0, .bool false, i6 0, i6 0, .bool false, i6 0, i6 0, i6 0]
theorem und_grabs' : Try.prog.underlying 25 = some (.slice 35) := by kernel_rfl
theorem eqNilG (a : Option Addr) (n cap : Nat) (w : World) : (binOp .eql 25 (.slice a n cap) (.slice none 0 0)).run Try.prog w = .ok (.bool a.isNone) w := by
  simp [binOp, run_equal_slice_nil w _ _ a n cap und_grabs']
theorem one_g : ∀ (gs : List G) (u : Value), u ∈ cellsG gs → u.oneCell' = true := by
  intro gs u hu
  obtain ⟨x, _, hx⟩ := List.mem_flatMap.1 hu
  simp only [gL, List.mem_cons, List.not_mem_nil, or_false] at hx
  rcases hx with rfl | rfl | rfl | rfl | rfl | rfl | rfl | rfl | rfl <;> rfl
theorem info_grab : (Try.prog.info? 35).map (fun i => (i.zero, i.size, i.bytes)) = some (some zeroG, 9, 64) := by kernel_rfl
theorem und_grabs : Try.prog.underlying 25 = some (.slice 35) := by kernel_rfl
set_option maxRecDepth 100000 in
set_option maxHeartbeats 4000000 in
theorem clone_any (v : Value) (gs : List G) (w : World) (hv : TabG w v gs) (hl : gs.length ≤ 1000) :
    Calls Try.prog 35 #[v] w fun e w' => ∃ v', e = .returned v' ∧ OwnG w' w.heap.size v' gs ∧ Below w.heap.size w w' := by
  obtain ⟨i0, hi, hz0, hz1, hz2⟩ := info_parts info_grab
  rcases hv with ⟨rfl, rfl⟩ | ⟨h0, hv⟩
  · have hq := eqNilG none 0 0
    go_enter Try.func35, Try.ntmps35
    go_wp2_with fail
    go_returns
    exact ⟨_, rfl, World.ownsRow_nil _ _ _ _, Below.refl _ _⟩
  · obtain ⟨A, cap, rfl, hf⟩ := hv
    obtain ⟨b, off, rfl, hb, hlay⟩ := hf h0
    have hcl : ∀ W, Below w.heap.size w W → ∀ j u, (cellsG gs)[j]? = some u → W.cell? ((⟨b, off, none⟩ : Addr).add j) = some u := by
      intro W hW j u hj
      have hjl : j < gs.length * 9 := by rw [← cellsG_len]; exact (List.getElem?_eq_some_iff.1 hj).1
      obtain ⟨x, hx⟩ : ∃ x, gs[j / 9]? = some x := ⟨_, List.getElem?_eq_getElem (by omega)⟩
      have h9 := cellsG_at gs (j / 9) x hx (j % 9) (by omega)
      rw [show j / 9 * 9 + j % 9 = j by omega, hj] at h9
      have := cell_below hW (hlay _ x hx (j % 9) u h9.symm)
      rw [show off + j / 9 * 9 + j % 9 = off + j by omega] at this
      rw [show (⟨b, off, none⟩ : Addr).add j = ⟨b, off + j, none⟩ by unfold Addr.add; split <;> simp_all]
      exact this
    have HCL := Lib.hid hcl
    have hlen := cellsG_len gs
    clear hf hlay hcl
    obtain ⟨n, hn⟩ : ∃ n, gs.length = n := ⟨_, rfl⟩
    have HN := Lib.hid hn
    rw [hn] at hl hlen h0 ⊢
    clear hn
    have HLEN := Lib.hid hlen
    clear hlen
    have hq := eqNilG (some ⟨b, off, none⟩) n cap
    have hown : (w.alloc (.cells #[] 35)).ownsRow w.heap.size 35 9 (.slice (some ⟨w.heap.size, 0, none⟩) 0 0) 0 [] := World.ownsRow_lit w #[] 0 (Nat.le_refl _) (by decide) rfl
    have HOWN := Lib.hid hown
    clear hown
    go_enter Try.func35, Try.ntmps35
    go_wp2_with (at_builtin; refine wpList_append_own _ rfl _ _ 25 rfl w.heap.size 35 i0 zeroG 9 64 und_grabs hi hz0 hz1 hz2 rfl (by decide) _ _ _ rfl HOWN.out ⟨b, off, none⟩ n cap (cellsG gs) rfl HLEN.out (HCL.out _ (by (repeat' (first | with_reducible exact Below.refl _ _ | with_reducible assumption | with_reducible refine q_alloc ?_ _ | with_reducible refine q_drew ?_ | with_reducible refine q_drewN _ ?_ | with_reducible refine q_setCell ?_ ?_ _ | (left; simp; done) | (right; simp; done) | (right; dsimp only; omega) | (left; dsimp only; omega))))) (one_g gs) ?c3 ?c4 ?c5 ?_)
    case c3 => unfold maxLen; omega
    case c4 => omega
    case c5 => simp
    intro v' w9 hown' hgrow _
    have hb1 : Below w.heap.size w w9 := ((Below.refl w.heap.size w).alloc (Nat.le_refl _) _).grown hgrow (by simp) (fun j hj => by simp [Value.ownBlock] at hj; omega)
    have HO : Hid (w9.ownsRow w.heap.size 35 9 v' n (cellsG gs)) := Lib.hid (by simpa using hown')
    clear hown' hgrow
    go_wp2_with fail
    go_returns
    exact ⟨_, rfl, by have := HO.out; rw [← HN.out] at this ⊢; exact this, hb1⟩

set_option maxRecDepth 100000 in
set_option maxHeartbeats 8000000 in
theorem add_conf (g : G) (hg : RightG g) (v : Value) (gs : List G) (w : World) (hv : TabG w v gs) (hl : gs.length ≤ 1000) (hc : gs.any (conflB g) = true) :
    Calls Try.prog 21 #[.agg #[v], gV g] w fun e w' => e = .returned (.tuple #[.agg #[v], i6 15]) ∧ Below w.heap.size w w' := by
  obtain ⟨A, cap, rfl, _⟩ := hv.is
  have HG := Lib.hid hg
  have HV := Lib.hid hv.is
  have HC := Lib.hid hc
  clear hg hv hc
  obtain ⟨n, hn⟩ : ∃ n, gs.length = n := ⟨_, rfl⟩
  rw [hn] at HV ⊢
  have HN := Lib.hid hn
  rw [hn] at hl
  clear hn
  go_enter Try.func21, Try.ntmps21
  go_wp2_with fail
  refine calls_world (fun W => Below w.heap.size w W ∧ Blk W w.heap.size [.slice A n cap] ∧ Blk W (w.heap.size + 1) (gL g) ∧ Blk W (w.heap.size + 1 + 1) [.slice none 0 0]) ⟨by (repeat' (first | with_reducible exact Below.refl _ _ | with_reducible assumption | with_reducible refine q_alloc ?_ _ | with_reducible refine q_drew ?_ | with_reducible refine q_drewN _ ?_ | with_reducible refine q_setCell ?_ ?_ _ | (left; simp; done) | (right; simp; done) | (right; dsimp only; omega) | (left; dsimp only; omega))), ((Blk.new rfl).alloc _).alloc _, (blk_new1 rfl).alloc _, blk_new2 rfl⟩ ?_
  intro W1 ⟨hq1, b1, b2, b3⟩
  refine (check_ok g _ HG.out).mono ?_
  rintro e w2 ⟨rfl, hb⟩
  have hq2 := q_step hq1 hb
  have d0 := (b1.below hb).cell 0 rfl
  have c1 := b1.below hb
  have c2 := b2.below hb
  have c3 := b3.below hb
  have C1 := Lib.hid c1
  have C2 := Lib.hid c2
  have C3 := Lib.hid c3
  clear b1 b2 b3 hq1 hb c1 c2 c3
  go_wp2_with fail
  refine (contains_a (w.heap.size + 1) (conflB g) gs _ _ (HV.out.below hq2) (by rw [HN.out]; omega) (fun W x hW => confl_any _ g x W (C2.out.below hW))).mono ?_
  rintro e w3 ⟨rfl, hb⟩
  rw [HC.out]
  have hq3 := q_step hq2 hb
  have c1 := C1.out.below hb
  have c3 := C3.out.below hb
  have d0 := c1.cell 0 rfl
  have e0 := c3.cell 0 rfl
  have f0 := c3.froz 0 rfl
  have hlt := c3.lt
  clear hb hq2 c1
  go_wp2_with fail
  refine body_world (fun W => Below w.heap.size w W ∧ Blk W (w.heap.size + 1 + 1) [.slice A n cap]) ⟨by (repeat' (first | with_reducible exact Below.refl _ _ | with_reducible assumption | with_reducible refine q_alloc ?_ _ | with_reducible refine q_drew ?_ | with_reducible refine q_drewN _ ?_ | with_reducible refine q_setCell ?_ ?_ _ | (left; simp; done) | (right; simp; done) | (right; dsimp only; omega) | (left; dsimp only; omega))), c3.set 0 _ (by simp) rfl⟩ ?_
  intro W9 ⟨hq9, b9⟩
  clear d0 e0 f0 c3
  have d0 := b9.cell 0 rfl
  exact bodyPost_ret (v := .tuple #[.agg #[.slice A n cap], i6 15]) (by simp [results, Try.results21, go_sem, d0]) rfl ⟨rfl, hq9⟩
end Go.Proofs.Ytmcndiljldbkcaa
