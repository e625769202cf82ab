/- Layer 38: the document's Add. -/
import Derived.Test.YtmcndiljldbkcaaPs27
namespace Go.Proofs.Ytmcndiljldbkcaa
open Go Go.RowKit Go.Maps
set_option linter.unusedSimpArgs false
set_option linter.unusedVariables false
def replL (g : G) (gs : List G) : List G := gs.map (fun x => if likeB g x = true then g else x)
theorem replL_len (g : G) (gs : List G) : (replL g gs).length = gs.length := by simp [replL]
theorem replL_step (g : G) {gs : List G} {k : Nat} {x : G} (h : gs[k]? = some x) : replL g (gs.take (k + 1)) = replL g (gs.take k) ++ [if likeB g x = true then g else x] := by
  unfold replL
  rw [List.take_add_one, h]; simp
theorem replL_none (g : G) (gs : List G) (h : gs.any (likeB g) = false) : replL g gs = gs := by
  unfold replL
  rw [List.any_eq_false] at h
  conv => rhs; rw [← List.map_id gs]
  exact List.map_congr_left fun x hx => by rw [if_neg (h x hx)]; rfl
theorem any_step (p : G → Bool) {gs : List G} {k : Nat} {x : G} (h : gs[k]? = some x) : (gs.take (k + 1)).any p = ((gs.take k).any p || p x) := by
  rw [List.take_add_one, h, List.any_append]; simp
theorem confl_of (g x : G) (hc : x.cl ≠ g.cl) : conflB g x = meetG x g := by
  unfold conflB
  rw [decide_eq_false hc, meet_comm g x]; rfl
theorem confl_same (g x : G) (hc : x.cl = g.cl) : conflB g x = false := by
  unfold conflB
  rw [decide_eq_true hc]; rfl
theorem own_farH {w : World} {B n : Nat} {v : Value} {e : TypeId} {s : Nat} {xs : List Value} (h : w.ownsRow B e s v n xs) : ∀ (b o n c : Nat), v = .slice (some ⟨b, o, none⟩) n c → B ≤ b := by
  rintro b o n' c rfl
  rcases h.2 with ⟨e, _⟩ | ⟨g, cap, cur, e, h1, _⟩
  · injection e with e1; cases e1
  · injection e with e1 e2 e3
    injection e1 with e1
    injection e1 with e1
    omega
def raddL (g : G) (gs : List G) : List G :=
  if chkN g ≠ 0 then gs else if gs.any (conflB g) = true then gs else if gs.any (likeB g) = true then replL g gs else if 256 ≤ gs.length then gs else gs ++ [g]
set_option maxRecDepth 100000 in
set_option maxHeartbeats 16000000 in
theorem radd_any (g : G) (v : Value) (gs : List G) (w : World) (hv : IsG w v gs) (hl : gs.length ≤ 1000) :
    Calls Try.prog 39 #[v, gV g] w fun e w' => ∃ v', e = .returned (.tuple #[v', i6 (addE g gs)]) ∧ IsG w' v' (raddL g gs) ∧ (v' = v ∨ ∀ (b o n c : Nat), v' = .slice (some ⟨b, o, none⟩) n c → w.heap.size ≤ b) ∧ Below w.heap.size w w' := by
  obtain ⟨i0, hi, hz0, hz1, hz2⟩ := info_parts info_rgrab
  obtain ⟨g0, g1, g2, g3, g4, g5, g6, g7, g8⟩ := g
  have HIS := Lib.hid hv
  obtain ⟨A, cap, rfl, hf⟩ := hv
  have HF := Lib.hid hf
  clear hf
  obtain ⟨n, hn⟩ : ∃ n, gs.length = n := ⟨_, rfl⟩
  rw [hn] at HF HIS hl ⊢
  have HN := Lib.hid hn
  clear hn
  obtain ⟨N, hN⟩ : ∃ N, chkN ⟨g0, g1, g2, g3, g4, g5, g6, g7, g8⟩ = N := ⟨_, rfl⟩
  have HNN := Lib.hid hN
  clear hN
  go_enter Try.func39, Try.ntmps39
  go_wp2_with fail
  refine calls_world (fun W => Below w.heap.size w W ∧ Blk W w.heap.size [i6 g0, u3 g1, .bool g2, i6 g3, i6 g4, .bool g5, i6 g6, i6 g7, i6 g8]) ⟨by (repeat' (first | with_reducible exact Below.refl _ _ | with_reducible assumption | with_reducible refine q_alloc ?_ _ | with_reducible refine q_drew ?_ | with_reducible refine q_drewN _ ?_ | with_reducible refine q_setCell ?_ ?_ _ | (left; simp; done) | (right; simp; done) | (right; dsimp only; omega) | (left; dsimp only; omega))), Blk.new rfl⟩ ?_
  intro W1 ⟨hq1, b1⟩
  obtain ⟨xb, hxb⟩ : ∃ xb, xb = w.heap.size := ⟨_, rfl⟩
  rw [← hxb] at b1 ⊢
  have HXB := Lib.hid hxb
  clear hxb
  refine (rcheck_any ⟨g0, g1, g2, g3, g4, g5, g6, g7, g8⟩ _).mono ?_
  rintro e w2 ⟨rfl, hb⟩
  rw [HNN.out]
  have hq2 := q_step hq1 hb
  have b2 := b1.below hb
  have HQ2 := Lib.hid hq2
  have z2 := b2.lt
  have e0 := stick (b2.cell 0 rfl)
  have e1 := stick (b2.cell 1 rfl)
  have e2 := stick (b2.cell 2 rfl)
  have e3 := stick (b2.cell 3 rfl)
  have e4 := stick (b2.cell 4 rfl)
  have e5 := stick (b2.cell 5 rfl)
  have e6 := stick (b2.cell 6 rfl)
  have e7 := stick (b2.cell 7 rfl)
  have e8 := stick (b2.cell 8 rfl)
  clear hq1 hb b1 b2 hq2
  by_cases hN0 : N ≠ 0
  · have hNb : (N != 0) = true := by simpa using hN0
    have HR : Hid (addE ⟨g0, g1, g2, g3, g4, g5, g6, g7, g8⟩ gs = N ∧ raddL ⟨g0, g1, g2, g3, g4, g5, g6, g7, g8⟩ gs = gs) := Lib.hid (by unfold addE raddL; rw [HNN.out, if_pos hN0, if_pos hN0]; exact ⟨rfl, rfl⟩)
    clear hN0
    go_wp2_with fail
    go_returns
    exact ⟨_, by first | (rw [HR.out.1]; done) | (rw [HR.out.1]; rfl) | (simp [HR.out.1]; done), by rw [HR.out.2]; exact HIS.out.below HQ2.out, Or.inl rfl, HQ2.out⟩
  obtain rfl : N = 0 := Classical.not_not.1 hN0
  clear hN0
  go_wp2_with fail
  go_loopw [7] (fun i wr => ∃ k : Nat, k ≤ n ∧ i = .int .i64 k ∧ Hid ((gs.take k).any (conflB ⟨g0, g1, g2, g3, g4, g5, g6, g7, g8⟩) = false) ∧ Below w2.heap.size w2 wr)
    (fun i _ => n - (intOf i).toNat)
  case atStart => exact ⟨0, Nat.zero_le _, rfl, Lib.hid rfl, Below.refl _ _⟩
  case round =>
    obtain ⟨k, hk, rfl, HCF, J⟩ := hrel
    by_cases hlt : k < n
    · obtain ⟨b, off, rfl, hb, hlay⟩ := HF.out (by omega)
      obtain ⟨x, hx⟩ : ∃ x, gs[k]? = some x := ⟨_, List.getElem?_eq_getElem (by rw [HN.out]; exact hlt)⟩
      have hki : (k : Int) < (n : Int) := by omega
      have hlx := fun j u hj => cell_below HQ2.out (hlay k x hx j u hj)
      have hst := any_step (conflB ⟨g0, g1, g2, g3, g4, g5, g6, g7, g8⟩) hx
      have HX := Lib.hid hx
      obtain ⟨a0, a1, a2, a3, a4, a5, a6, a7, a8⟩ := x
      have d0 := stick (hlx 0 _ rfl)
      have d1 := stick (hlx 1 _ rfl)
      have d2 := stick (hlx 2 _ rfl)
      have d3 := stick (hlx 3 _ rfl)
      have d4 := stick (hlx 4 _ rfl)
      have d5 := stick (hlx 5 _ rfl)
      have d6 := stick (hlx 6 _ rfl)
      have d7 := stick (hlx 7 _ rfl)
      have d8 := stick (hlx 8 _ rfl)
      rw [Nat.add_zero] at d0
      dsimp only at d0 d1 d2 d3 d4 d5 d6 d7 d8
      rw [HCF.out, Bool.false_or] at hst
      have HST := Lib.hid hst
      clear hlx hlay hx hst
      by_cases hc : a0 = g0
      · have HC0 : Hid ((gs.take (k + 1)).any (conflB ⟨g0, g1, g2, g3, g4, g5, g6, g7, g8⟩) = false) := Lib.hid (HST.out.trans (confl_same _ _ hc))
        have hcb : (a0 == g0) = true := by simpa using hc
        subst hc
        go_wp2_with fail
        go_cut [38] from 23 to 39 (fun s wx => s = .bool false ∧ Below w2.heap.size w2 wx)
        case first =>
          refine wp_region_held_drew (S := fun w' => Below w2.heap.size w2 w') (by kernel_rfl) ?_ (fun hHeld => ?_)
          · (try dsimp only); first | with_reducible exact J | with_reducible exact J.drew | with_reducible exact q_alloc J _ | with_reducible exact q_alloc J.drew _ | ((repeat' (first | with_reducible exact Below.refl _ _ | with_reducible assumption | with_reducible refine q_alloc ?_ _ | with_reducible refine q_drew ?_ | with_reducible refine q_drewN _ ?_ | with_reducible refine q_setCell ?_ ?_ _ | (left; simp; done) | (right; simp; done) | (right; dsimp only; omega) | (left; dsimp only; omega))); done)
          refine wpAnyH_take (i := 0) (oi := { dst := some 23, op := Op.move (Operand.tmp 0), type := 28, pos := "ref.go:54", after := #[], guard := none }) (v := ?_) rfl (by kernel_rfl) (by kernel_rfl) (by kernel_rfl) (fun _ _ _ h => h) (Or.inl ⟨by rfl, ?_⟩) (by assumption) ?_
          rotate_left
          · intro w hSw; (try dsimp only at hSw); go_simp; (try with_reducible rfl)
          try simp only [Act.put, List.setIfInBounds_toArray, List.set_cons_zero, List.set_cons_succ]
          refine wpAnyH_take (i := 1) (oi := { dst := some 24, op := Op.move (Operand.tmp 7), type := 3, pos := "ref.go:54", after := #[], guard := none }) (v := ?_) rfl (by kernel_rfl) (by kernel_rfl) (by kernel_rfl) (fun _ _ _ h => h) (Or.inl ⟨by rfl, ?_⟩) (by assumption) ?_
          rotate_left
          · intro w hSw; (try dsimp only at hSw); go_simp; (try with_reducible rfl)
          try simp only [Act.put, List.setIfInBounds_toArray, List.set_cons_zero, List.set_cons_succ]
          refine wpAnyH_take (i := 2) (oi := { dst := some 25, op := Op.indexAddr 28 (Operand.tmp 23) (Operand.tmp 24), type := 0, pos := "ref.go:54", after := #[{ on := 0, ground := Ground.data }, { on := 1, ground := Ground.data }], guard := none }) (v := ?_) rfl (by kernel_rfl) (by kernel_rfl) (by kernel_rfl) (fun _ _ _ h => h) (Or.inl ⟨by rfl, ?_⟩) (by assumption) ?_
          rotate_left
          · intro w hSw; (try dsimp only at hSw); go_simp; (try with_reducible rfl)
          try simp only [Act.put, List.setIfInBounds_toArray, List.set_cons_zero, List.set_cons_succ]
          refine wpAnyH_take (i := 3) (oi := { dst := some 26, op := Op.fieldAddr 39 (Operand.tmp 25) 0, type := 0, pos := "ref.go:54", after := #[{ on := 2, ground := Ground.data }], guard := none }) (v := ?_) rfl (by kernel_rfl) (by kernel_rfl) (by kernel_rfl) (fun _ _ _ h => h) (Or.inl ⟨by rfl, ?_⟩) (by assumption) ?_
          rotate_left
          · intro w hSw; (try dsimp only at hSw); go_simp; (try with_reducible rfl)
          try simp only [Act.put, List.setIfInBounds_toArray, List.set_cons_zero, List.set_cons_succ]
          refine wpAnyH_take (i := 4) (oi := { dst := some 27, op := Op.load 3 (Operand.tmp 26), type := 3, pos := "ref.go:54", after := #[{ on := 3, ground := Ground.data }], guard := none }) (v := ?_) rfl (by kernel_rfl) (by kernel_rfl) (by kernel_rfl) (fun _ _ _ h => h) (Or.inl ⟨by rfl, ?_⟩) (by assumption) ?_
          rotate_left
          · intro w hSw; (try dsimp only at hSw); go_simp; (try with_reducible rfl)
          try simp only [Act.put, List.setIfInBounds_toArray, List.set_cons_zero, List.set_cons_succ]
          refine wpAnyH_take (i := 5) (oi := { dst := some 28, op := Op.fieldAddr 39 (Operand.tmp 3) 0, type := 0, pos := "ref.go:54", after := #[], guard := none }) (v := ?_) rfl (by kernel_rfl) (by kernel_rfl) (by kernel_rfl) (fun _ _ _ h => h) (Or.inl ⟨by rfl, ?_⟩) (by assumption) ?_
          rotate_left
          · intro w hSw; (try dsimp only at hSw); go_simp; (try with_reducible rfl)
          try simp only [Act.put, List.setIfInBounds_toArray, List.set_cons_zero, List.set_cons_succ]
          refine wpAnyH_take (i := 6) (oi := { dst := some 29, op := Op.load 3 (Operand.tmp 28), type := 3, pos := "ref.go:54", after := #[{ on := 5, ground := Ground.data }], guard := none }) (v := ?_) rfl (by kernel_rfl) (by kernel_rfl) (by kernel_rfl) (fun _ _ _ h => h) (Or.inl ⟨by rfl, ?_⟩) (by assumption) ?_
          rotate_left
          · intro w hSw; (try dsimp only at hSw); go_simp; (try with_reducible rfl)
          try simp only [Act.put, List.setIfInBounds_toArray, List.set_cons_zero, List.set_cons_succ]
          refine wpAnyH_take (i := 7) (oi := { dst := some 30, op := Op.binOp BinOp.neq 3 (Operand.tmp 27) (Operand.tmp 29) 3, type := 4, pos := "ref.go:54", after := #[{ on := 4, ground := Ground.data }, { on := 6, ground := Ground.data }], guard := none }) (v := ?_) rfl (by kernel_rfl) (by kernel_rfl) (by kernel_rfl) (fun _ _ _ h => h) (Or.inl ⟨by rfl, ?_⟩) (by assumption) ?_
          rotate_left
          · intro w hSw; (try dsimp only at hSw); go_simp; (try with_reducible rfl)
          try simp only [Act.put, List.setIfInBounds_toArray, List.set_cons_zero, List.set_cons_succ]
          refine wpAnyH_take (i := 8) (oi := { dst := some 31, op := Op.move (Operand.tmp 30), type := 4, pos := "ref.go:54", after := #[{ on := 7, ground := Ground.data }], guard := none }) (v := ?_) rfl (by kernel_rfl) (by kernel_rfl) (by kernel_rfl) (fun _ _ _ h => h) (Or.inl ⟨by rfl, ?_⟩) (by assumption) ?_
          rotate_left
          · intro w hSw; (try dsimp only at hSw); go_simp; (try with_reducible rfl)
          try simp only [Act.put, List.setIfInBounds_toArray, List.set_cons_zero, List.set_cons_succ]
          refine wpAnyH_take (i := 9) (oi := { dst := some 32, op := Op.move (Operand.tmp 0), type := 28, pos := "ref.go:54", after := #[{ on := 8, ground := Ground.guard }], guard := some (8, true) }) (v := undef) rfl (by kernel_rfl) (by kernel_rfl) (by kernel_rfl) (fun _ _ _ h => h) (Or.inr ⟨by rfl, rfl⟩) (by assumption) ?_
          try simp only [Act.put, List.setIfInBounds_toArray, List.set_cons_zero, List.set_cons_succ]
          refine wpAnyH_take (i := 10) (oi := { dst := some 33, op := Op.move (Operand.tmp 7), type := 3, pos := "ref.go:54", after := #[{ on := 8, ground := Ground.guard }], guard := some (8, true) }) (v := undef) rfl (by kernel_rfl) (by kernel_rfl) (by kernel_rfl) (fun _ _ _ h => h) (Or.inr ⟨by rfl, rfl⟩) (by assumption) ?_
          try simp only [Act.put, List.setIfInBounds_toArray, List.set_cons_zero, List.set_cons_succ]
          refine wpAnyH_take (i := 11) (oi := { dst := some 34, op := Op.indexAddr 28 (Operand.tmp 32) (Operand.tmp 33), type := 0, pos := "ref.go:54", after := #[{ on := 9, ground := Ground.data }, { on := 10, ground := Ground.data }, { on := 8, ground := Ground.guard }], guard := some (8, true) }) (v := undef) rfl (by kernel_rfl) (by kernel_rfl) (by kernel_rfl) (fun _ _ _ h => h) (Or.inr ⟨by rfl, rfl⟩) (by assumption) ?_
          try simp only [Act.put, List.setIfInBounds_toArray, List.set_cons_zero, List.set_cons_succ]
          refine wpAnyH_take (i := 12) (oi := { dst := some 35, op := Op.load 39 (Operand.tmp 34), type := 39, pos := "ref.go:54", after := #[{ on := 11, ground := Ground.data }, { on := 8, ground := Ground.guard }], guard := some (8, true) }) (v := undef) rfl (by kernel_rfl) (by kernel_rfl) (by kernel_rfl) (fun _ _ _ h => h) (Or.inr ⟨by rfl, rfl⟩) (by assumption) ?_
          try simp only [Act.put, List.setIfInBounds_toArray, List.set_cons_zero, List.set_cons_succ]
          refine wpAnyH_take (i := 13) (oi := { dst := some 36, op := Op.load 39 (Operand.tmp 3), type := 39, pos := "ref.go:54", after := #[{ on := 8, ground := Ground.guard }], guard := some (8, true) }) (v := undef) rfl (by kernel_rfl) (by kernel_rfl) (by kernel_rfl) (fun _ _ _ h => h) (Or.inr ⟨by rfl, rfl⟩) (by assumption) ?_
          try simp only [Act.put, List.setIfInBounds_toArray, List.set_cons_zero, List.set_cons_succ]
          refine wpAnyH_take (i := 14) (oi := { dst := some 37, op := Op.call { callee := Callee.value (Operand.func 17), args := #[Operand.tmp 35, Operand.tmp 36], argTypes := #[39, 39] }, type := 4, pos := "ref.go:54", after := #[{ on := 12, ground := Ground.data }, { on := 13, ground := Ground.data }, { on := 8, ground := Ground.chain }, { on := 8, ground := Ground.guard }], guard := some (8, true) }) (v := undef) rfl (by kernel_rfl) (by kernel_rfl) (by kernel_rfl) (fun _ _ _ h => h) (Or.inr ⟨by rfl, rfl⟩) (by assumption) ?_
          try simp only [Act.put, List.setIfInBounds_toArray, List.set_cons_zero, List.set_cons_succ]
          refine wpAnyH_take (i := 15) (oi := { dst := some 38, op := Op.pick (Operand.tmp 31) (Operand.tmp 37) (Operand.const (Value.bool false)), type := 4, pos := "ref.go:54", after := #[{ on := 8, ground := Ground.data }, { on := 14, ground := Ground.data }], guard := none }) (v := ?_) rfl (by kernel_rfl) (by kernel_rfl) (by kernel_rfl) (fun _ _ _ h => h) (Or.inl ⟨by rfl, ?_⟩) (by assumption) ?_
          rotate_left
          · intro w hSw; (try dsimp only at hSw); go_simp; (try with_reducible rfl)
          try simp only [Act.put, List.setIfInBounds_toArray, List.set_cons_zero, List.set_cons_succ]
          refine wpAnyH_done (by kernel_rfl) ?_ _
          all_goals (go_wp2_with fail; go_meet; exact ⟨by first | rfl | (simp; done), by (repeat' (first | with_reducible exact Below.refl _ _ | with_reducible assumption | with_reducible refine q_alloc ?_ _ | with_reducible refine q_drew ?_ | with_reducible refine q_drewN _ ?_ | with_reducible refine q_setCell ?_ ?_ _ | (left; simp; done) | (right; simp; done) | (right; dsimp only; omega) | (left; dsimp only; omega)))⟩)
        case rest =>
          obtain ⟨rfl, J4⟩ := hcut
          obtain ⟨W4, rfl⟩ : ∃ W : World, W = wc := ⟨_, rfl⟩
          go_wp2_with fail
          go_roundw
          case rel => exact ⟨k + 1, by omega, by go_num, HC0, J4⟩
          case measure => simp [intOf] <;> omega
      · have hcb : (a0 == g0) = false := by simpa using hc
        have HCM : Hid (conflB ⟨g0, g1, g2, g3, g4, g5, g6, g7, g8⟩ ⟨a0, a1, a2, a3, a4, a5, a6, a7, a8⟩ = meetG ⟨a0, a1, a2, a3, a4, a5, a6, a7, a8⟩ ⟨g0, g1, g2, g3, g4, g5, g6, g7, g8⟩) := Lib.hid (confl_of _ _ hc)
        obtain ⟨M, hM⟩ : ∃ M, meetG ⟨a0, a1, a2, a3, a4, a5, a6, a7, a8⟩ ⟨g0, g1, g2, g3, g4, g5, g6, g7, g8⟩ = M := ⟨_, rfl⟩
        have HMM := Lib.hid hM
        have hne : ¬ a0 = g0 := hc
        clear hc hM
        go_wp2_with fail
        go_cut [38] from 23 to 39 (fun s wx => s = .bool M ∧ Below w2.heap.size w2 wx)
        case first =>
          refine wp_region_held_drew (S := fun w' => Below w2.heap.size w2 w') (by kernel_rfl) ?_ (fun hHeld => ?_)
          · (try dsimp only); first | with_reducible exact J | with_reducible exact J.drew | with_reducible exact q_alloc J _ | with_reducible exact q_alloc J.drew _ | ((repeat' (first | with_reducible exact Below.refl _ _ | with_reducible assumption | with_reducible refine q_alloc ?_ _ | with_reducible refine q_drew ?_ | with_reducible refine q_drewN _ ?_ | with_reducible refine q_setCell ?_ ?_ _ | (left; simp; done) | (right; simp; done) | (right; dsimp only; omega) | (left; dsimp only; omega))); done)
          refine wpAnyH_take (i := 0) (oi := { dst := some 23, op := Op.move (Operand.tmp 0), type := 28, pos := "ref.go:54", after := #[], guard := none }) (v := ?_) rfl (by kernel_rfl) (by kernel_rfl) (by kernel_rfl) (fun _ _ _ h => h) (Or.inl ⟨by rfl, ?_⟩) (by assumption) ?_
          rotate_left
          · intro w hSw; (try dsimp only at hSw); go_simp; (try with_reducible rfl)
          try simp only [Act.put, List.setIfInBounds_toArray, List.set_cons_zero, List.set_cons_succ]
          refine wpAnyH_take (i := 1) (oi := { dst := some 24, op := Op.move (Operand.tmp 7), type := 3, pos := "ref.go:54", after := #[], guard := none }) (v := ?_) rfl (by kernel_rfl) (by kernel_rfl) (by kernel_rfl) (fun _ _ _ h => h) (Or.inl ⟨by rfl, ?_⟩) (by assumption) ?_
          rotate_left
          · intro w hSw; (try dsimp only at hSw); go_simp; (try with_reducible rfl)
          try simp only [Act.put, List.setIfInBounds_toArray, List.set_cons_zero, List.set_cons_succ]
          refine wpAnyH_take (i := 2) (oi := { dst := some 25, op := Op.indexAddr 28 (Operand.tmp 23) (Operand.tmp 24), type := 0, pos := "ref.go:54", after := #[{ on := 0, ground := Ground.data }, { on := 1, ground := Ground.data }], guard := none }) (v := ?_) rfl (by kernel_rfl) (by kernel_rfl) (by kernel_rfl) (fun _ _ _ h => h) (Or.inl ⟨by rfl, ?_⟩) (by assumption) ?_
          rotate_left
          · intro w hSw; (try dsimp only at hSw); go_simp; (try with_reducible rfl)
          try simp only [Act.put, List.setIfInBounds_toArray, List.set_cons_zero, List.set_cons_succ]
          refine wpAnyH_take (i := 3) (oi := { dst := some 26, op := Op.fieldAddr 39 (Operand.tmp 25) 0, type := 0, pos := "ref.go:54", after := #[{ on := 2, ground := Ground.data }], guard := none }) (v := ?_) rfl (by kernel_rfl) (by kernel_rfl) (by kernel_rfl) (fun _ _ _ h => h) (Or.inl ⟨by rfl, ?_⟩) (by assumption) ?_
          rotate_left
          · intro w hSw; (try dsimp only at hSw); go_simp; (try with_reducible rfl)
          try simp only [Act.put, List.setIfInBounds_toArray, List.set_cons_zero, List.set_cons_succ]
          refine wpAnyH_take (i := 4) (oi := { dst := some 27, op := Op.load 3 (Operand.tmp 26), type := 3, pos := "ref.go:54", after := #[{ on := 3, ground := Ground.data }], guard := none }) (v := ?_) rfl (by kernel_rfl) (by kernel_rfl) (by kernel_rfl) (fun _ _ _ h => h) (Or.inl ⟨by rfl, ?_⟩) (by assumption) ?_
          rotate_left
          · intro w hSw; (try dsimp only at hSw); go_simp; (try with_reducible rfl)
          try simp only [Act.put, List.setIfInBounds_toArray, List.set_cons_zero, List.set_cons_succ]
          refine wpAnyH_take (i := 5) (oi := { dst := some 28, op := Op.fieldAddr 39 (Operand.tmp 3) 0, type := 0, pos := "ref.go:54", after := #[], guard := none }) (v := ?_) rfl (by kernel_rfl) (by kernel_rfl) (by kernel_rfl) (fun _ _ _ h => h) (Or.inl ⟨by rfl, ?_⟩) (by assumption) ?_
          rotate_left
          · intro w hSw; (try dsimp only at hSw); go_simp; (try with_reducible rfl)
          try simp only [Act.put, List.setIfInBounds_toArray, List.set_cons_zero, List.set_cons_succ]
          refine wpAnyH_take (i := 6) (oi := { dst := some 29, op := Op.load 3 (Operand.tmp 28), type := 3, pos := "ref.go:54", after := #[{ on := 5, ground := Ground.data }], guard := none }) (v := ?_) rfl (by kernel_rfl) (by kernel_rfl) (by kernel_rfl) (fun _ _ _ h => h) (Or.inl ⟨by rfl, ?_⟩) (by assumption) ?_
          rotate_left
          · intro w hSw; (try dsimp only at hSw); go_simp; (try with_reducible rfl)
          try simp only [Act.put, List.setIfInBounds_toArray, List.set_cons_zero, List.set_cons_succ]
          refine wpAnyH_take (i := 7) (oi := { dst := some 30, op := Op.binOp BinOp.neq 3 (Operand.tmp 27) (Operand.tmp 29) 3, type := 4, pos := "ref.go:54", after := #[{ on := 4, ground := Ground.data }, { on := 6, ground := Ground.data }], guard := none }) (v := .bool true) rfl (by kernel_rfl) (by kernel_rfl) (by kernel_rfl) (fun _ _ _ h => h) (Or.inl ⟨by rfl, ?_⟩) (by assumption) ?_
          · intro w hSw; (try dsimp only at hSw); go_simp; (try simp [hcb, hne]); (try with_reducible rfl)
          try simp only [Act.put, List.setIfInBounds_toArray, List.set_cons_zero, List.set_cons_succ]
          refine wpAnyH_take (i := 8) (oi := { dst := some 31, op := Op.move (Operand.tmp 30), type := 4, pos := "ref.go:54", after := #[{ on := 7, ground := Ground.data }], guard := none }) (v := ?_) rfl (by kernel_rfl) (by kernel_rfl) (by kernel_rfl) (fun _ _ _ h => h) (Or.inl ⟨by rfl, ?_⟩) (by assumption) ?_
          rotate_left
          · intro w hSw; (try dsimp only at hSw); go_simp; (try with_reducible rfl)
          try simp only [Act.put, List.setIfInBounds_toArray, List.set_cons_zero, List.set_cons_succ]
          refine wpAnyH_take (i := 9) (oi := { dst := some 32, op := Op.move (Operand.tmp 0), type := 28, pos := "ref.go:54", after := #[{ on := 8, ground := Ground.guard }], guard := some (8, true) }) (v := ?_) rfl (by kernel_rfl) (by kernel_rfl) (by kernel_rfl) (fun _ _ _ h => h) (Or.inl ⟨by rfl, ?_⟩) (by assumption) ?_
          rotate_left
          · intro w hSw; (try dsimp only at hSw); go_simp; (try with_reducible rfl)
          try simp only [Act.put, List.setIfInBounds_toArray, List.set_cons_zero, List.set_cons_succ]
          refine wpAnyH_take (i := 10) (oi := { dst := some 33, op := Op.move (Operand.tmp 7), type := 3, pos := "ref.go:54", after := #[{ on := 8, ground := Ground.guard }], guard := some (8, true) }) (v := ?_) rfl (by kernel_rfl) (by kernel_rfl) (by kernel_rfl) (fun _ _ _ h => h) (Or.inl ⟨by rfl, ?_⟩) (by assumption) ?_
          rotate_left
          · intro w hSw; (try dsimp only at hSw); go_simp; (try with_reducible rfl)
          try simp only [Act.put, List.setIfInBounds_toArray, List.set_cons_zero, List.set_cons_succ]
          refine wpAnyH_take (i := 11) (oi := { dst := some 34, op := Op.indexAddr 28 (Operand.tmp 32) (Operand.tmp 33), type := 0, pos := "ref.go:54", after := #[{ on := 9, ground := Ground.data }, { on := 10, ground := Ground.data }, { on := 8, ground := Ground.guard }], guard := some (8, true) }) (v := ?_) rfl (by kernel_rfl) (by kernel_rfl) (by kernel_rfl) (fun _ _ _ h => h) (Or.inl ⟨by rfl, ?_⟩) (by assumption) ?_
          rotate_left
          · intro w hSw; (try dsimp only at hSw); go_simp; (try with_reducible rfl)
          try simp only [Act.put, List.setIfInBounds_toArray, List.set_cons_zero, List.set_cons_succ]
          refine wpAnyH_take (i := 12) (oi := { dst := some 35, op := Op.load 39 (Operand.tmp 34), type := 39, pos := "ref.go:54", after := #[{ on := 11, ground := Ground.data }, { on := 8, ground := Ground.guard }], guard := some (8, true) }) (v := ?_) rfl (by kernel_rfl) (by kernel_rfl) (by kernel_rfl) (fun _ _ _ h => h) (Or.inl ⟨by rfl, ?_⟩) (by assumption) ?_
          rotate_left
          · intro w hSw; (try dsimp only at hSw); go_simp; (try with_reducible rfl)
          try simp only [Act.put, List.setIfInBounds_toArray, List.set_cons_zero, List.set_cons_succ]
          refine wpAnyH_take (i := 13) (oi := { dst := some 36, op := Op.load 39 (Operand.tmp 3), type := 39, pos := "ref.go:54", after := #[{ on := 8, ground := Ground.guard }], guard := some (8, true) }) (v := ?_) rfl (by kernel_rfl) (by kernel_rfl) (by kernel_rfl) (fun _ _ _ h => h) (Or.inl ⟨by rfl, ?_⟩) (by assumption) ?_
          rotate_left
          · intro w hSw; (try dsimp only at hSw); go_simp; (try with_reducible rfl)
          try simp only [Act.put, List.setIfInBounds_toArray, List.set_cons_zero, List.set_cons_succ]
          refine wpAnyH_ready (rs := [14]) (by kernel_rfl) (by simp) ?_
          refine AllReadyH.cons (o := { dst := some 37, op := Op.call { callee := Callee.value (Operand.func 17), args := #[Operand.tmp 35, Operand.tmp 36], argTypes := #[39, 39] }, type := 4, pos := "ref.go:54", after := #[{ on := 12, ground := Ground.data }, { on := 13, ground := Ground.data }, { on := 8, ground := Ground.chain }, { on := 8, ground := Ground.guard }], guard := some (8, true) }) rfl (fun K hK => ?_) AllReadyH.nil
          go_simp
          go_at_call 17; refine (rmeet_any ⟨a0, a1, a2, a3, a4, a5, a6, a7, a8⟩ ⟨g0, g1, g2, g3, g4, g5, g6, g7, g8⟩ _).mono ?_; rintro e w6 ⟨rfl, hb⟩; rw [HMM.out]; have J5 : Below w2.heap.size w2 w6 := q_step (by first | with_reducible exact J | with_reducible exact J.drew | with_reducible exact q_alloc J _ | with_reducible exact q_alloc J.drew _ | ((repeat' (first | with_reducible exact Below.refl _ _ | with_reducible assumption | with_reducible refine q_alloc ?_ _ | with_reducible refine q_drew ?_ | with_reducible refine q_drewN _ ?_ | with_reducible refine q_setCell ?_ ?_ _ | (left; simp; done) | (right; simp; done) | (right; dsimp only; omega) | (left; dsimp only; omega))); done)) hb; replace J := J5; clear J5 hb
          refine hK.out _ _ ?_ (fun hHeld => ?_)
          · (try dsimp only); first | with_reducible exact J | with_reducible exact J.drew | with_reducible exact q_alloc J _ | with_reducible exact q_alloc J.drew _ | ((repeat' (first | with_reducible exact Below.refl _ _ | with_reducible assumption | with_reducible refine q_alloc ?_ _ | with_reducible refine q_drew ?_ | with_reducible refine q_drewN _ ?_ | with_reducible refine q_setCell ?_ ?_ _ | (left; simp; done) | (right; simp; done) | (right; dsimp only; omega) | (left; dsimp only; omega))); done)
          clear hK K
          try simp only [Act.put, List.setIfInBounds_toArray, List.set_cons_zero, List.set_cons_succ]
          refine wpAnyH_take (i := 15) (oi := { dst := some 38, op := Op.pick (Operand.tmp 31) (Operand.tmp 37) (Operand.const (Value.bool false)), type := 4, pos := "ref.go:54", after := #[{ on := 8, ground := Ground.data }, { on := 14, ground := Ground.data }], guard := none }) (v := ?_) rfl (by kernel_rfl) (by kernel_rfl) (by kernel_rfl) (fun _ _ _ h => h) (Or.inl ⟨by rfl, ?_⟩) (by assumption) ?_
          rotate_left
          · intro w hSw; (try dsimp only at hSw); go_simp; (try with_reducible rfl)
          try simp only [Act.put, List.setIfInBounds_toArray, List.set_cons_zero, List.set_cons_succ]
          refine wpAnyH_done (by kernel_rfl) ?_ _
          all_goals (go_wp2_with fail; go_meet; exact ⟨by first | rfl | (simp; done), by (repeat' (first | with_reducible exact Below.refl _ _ | with_reducible assumption | with_reducible refine q_alloc ?_ _ | with_reducible refine q_drew ?_ | with_reducible refine q_drewN _ ?_ | with_reducible refine q_setCell ?_ ?_ _ | (left; simp; done) | (right; simp; done) | (right; dsimp only; omega) | (left; dsimp only; omega)))⟩)
        case rest =>
          obtain ⟨rfl, J4⟩ := hcut
          obtain ⟨W4, rfl⟩ : ∃ W : World, W = wc := ⟨_, rfl⟩
          clear J
          cases M with
          | true =>
            have hany : gs.any (conflB ⟨g0, g1, g2, g3, g4, g5, g6, g7, g8⟩) = true := List.any_eq_true.2 ⟨_, List.mem_of_getElem? HX.out, by rw [HCM.out, HMM.out]⟩
            have HR : Hid (addE ⟨g0, g1, g2, g3, g4, g5, g6, g7, g8⟩ gs = 15 ∧ raddL ⟨g0, g1, g2, g3, g4, g5, g6, g7, g8⟩ gs = gs) := Lib.hid (by unfold addE raddL; rw [HNN.out, hany]; simp)
            clear hany
            go_wp2_with fail
            go_returns
            exact ⟨_, by first | (rw [HR.out.1]; done) | (rw [HR.out.1]; rfl) | (simp [HR.out.1]; done), by rw [HR.out.2]; exact HIS.out.below (q_step HQ2.out J4), Or.inl rfl, q_step HQ2.out J4⟩
          | false =>
            have HC0 : Hid ((gs.take (k + 1)).any (conflB ⟨g0, g1, g2, g3, g4, g5, g6, g7, g8⟩) = false) := Lib.hid (HST.out.trans (by rw [HCM.out, HMM.out]))
            go_wp2_with fail
            go_roundw
            case rel => exact ⟨k + 1, by omega, by go_num, HC0, J4⟩
            case measure => simp [intOf] <;> omega
    · obtain rfl : n = k := by omega
      have hcf := HCF.out
      rw [List.take_of_length_le (by rw [HN.out]; exact Nat.le_refl _)] at hcf
      have HCA := Lib.hid hcf
      clear hcf HCF
      go_wp2_with fail
      go_loopw [8, 9, 10] (fun o t i wr => ∃ k : Nat, k ≤ n ∧ i = .int .i64 k ∧ OwnH wr w2.heap.size o (replL ⟨g0, g1, g2, g3, g4, g5, g6, g7, g8⟩ (gs.take k)) ∧ t = .bool ((gs.take k).any (likeB ⟨g0, g1, g2, g3, g4, g5, g6, g7, g8⟩)) ∧ Below w2.heap.size w2 wr)
        (fun _ _ i _ => n - (intOf i).toNat)
      case atStart => exact ⟨0, Nat.zero_le _, rfl, World.ownsRow_nil _ _ _ _, rfl, J⟩
      case round =>
        clear J
        obtain ⟨k, hk, rfl, hown, rfl, J⟩ := hrel
        have HOWN := Lib.hid hown
        clear hown
        by_cases hlt : k < n
        · obtain ⟨b, off, rfl, hb, hlay⟩ := HF.out (by omega)
          obtain ⟨x, hx⟩ : ∃ x, gs[k]? = some x := ⟨_, List.getElem?_eq_getElem (by rw [HN.out]; exact hlt)⟩
          have hki : (k : Int) < (n : Int) := by omega
          have hlx := fun j u hj => cell_below HQ2.out (hlay k x hx j u hj)
          have HX := Lib.hid hx
          obtain ⟨a0, a1, a2, a3, a4, a5, a6, a7, a8⟩ := x
          have d0 := stick (hlx 0 _ rfl)
          have d1 := stick (hlx 1 _ rfl)
          have d2 := stick (hlx 2 _ rfl)
          have d3 := stick (hlx 3 _ rfl)
          have d4 := stick (hlx 4 _ rfl)
          have d5 := stick (hlx 5 _ rfl)
          have d6 := stick (hlx 6 _ rfl)
          have d7 := stick (hlx 7 _ rfl)
          have d8 := stick (hlx 8 _ rfl)
          rw [Nat.add_zero] at d0
          dsimp only at d0 d1 d2 d3 d4 d5 d6 d7 d8
          clear hlx hlay hx
          obtain ⟨L, hL⟩ : ∃ L, likeB ⟨g0, g1, g2, g3, g4, g5, g6, g7, g8⟩ ⟨a0, a1, a2, a3, a4, a5, a6, a7, a8⟩ = L := ⟨_, rfl⟩
          have HLK := Lib.hid hL
          clear hL
          go_wp2_with fail
          go_cut [51] from 46 to 52 (fun s wx => s = .bool L ∧ Below w2.heap.size w2 wx ∧ OwnH wx w2.heap.size u8 (replL ⟨g0, g1, g2, g3, g4, g5, g6, g7, g8⟩ (gs.take k)))
          case first =>
            have J0 : Below wr.heap.size wr wr := Below.refl _ _
            go_region_held3 (fun w' => Below w2.heap.size w2 w')
              (first | with_reducible exact J | with_reducible exact J.drew | with_reducible exact q_alloc J _ | with_reducible exact q_alloc J.drew _ | ((repeat' (first | with_reducible exact Below.refl _ _ | with_reducible assumption | with_reducible refine q_alloc ?_ _ | with_reducible refine q_drew ?_ | with_reducible refine q_drewN _ ?_ | with_reducible refine q_setCell ?_ ?_ _ | (left; simp; done) | (right; simp; done) | (right; dsimp only; omega) | (left; dsimp only; omega))); done))
              (first
                | (go_at_call 46; refine (alike_any ⟨a0, a1, a2, a3, a4, a5, a6, a7, a8⟩ ⟨g0, g1, g2, g3, g4, g5, g6, g7, g8⟩ _).mono ?_; rintro e w6 ⟨rfl, hb⟩; rw [HLK.out]; have J5 : Below w2.heap.size w2 w6 := q_step (by first | with_reducible exact J | with_reducible exact J.drew | with_reducible exact q_alloc J _ | with_reducible exact q_alloc J.drew _ | ((repeat' (first | with_reducible exact Below.refl _ _ | with_reducible assumption | with_reducible refine q_alloc ?_ _ | with_reducible refine q_drew ?_ | with_reducible refine q_drewN _ ?_ | with_reducible refine q_setCell ?_ ?_ _ | (left; simp; done) | (right; simp; done) | (right; dsimp only; omega) | (left; dsimp only; omega))); done)) hb; have JR : Below wr.heap.size wr w6 := q_step (by first | with_reducible exact J0 | with_reducible exact J0.drew) hb; replace J := J5; clear J5 hb))
            all_goals (go_wp2_with fail; go_meet; first | exact ⟨by first | rfl | (simp; done), J, own_below HOWN.out JR⟩ | exact ⟨by first | rfl | (simp; done), J.drew, own_below HOWN.out JR.drew⟩)
          case rest =>
            obtain ⟨rfl, J4, ho4⟩ := hcut
            obtain ⟨W4, rfl⟩ : ∃ W : World, W = wc := ⟨_, rfl⟩
            have hz4 : w2.heap.size ≤ W4.heap.size := J4.size
            have HO4 : Hid (W4.ownsRow w2.heap.size 39 9 u8 k (cellsG (replL ⟨g0, g1, g2, g3, g4, g5, g6, g7, g8⟩ (gs.take k)))) := Lib.hid (by
              have h := ho4
              unfold OwnH at h
              rw [replL_len, List.length_take, HN.out, Nat.min_eq_left hk] at h
              exact h)
            have HJ4 := Lib.hid J4
            clear ho4 J HOWN
            have J := HJ4.out
            clear J4
            cases L with
            | true =>
              have HRS : Hid (replL ⟨g0, g1, g2, g3, g4, g5, g6, g7, g8⟩ (gs.take (k + 1)) = replL ⟨g0, g1, g2, g3, g4, g5, g6, g7, g8⟩ (gs.take k) ++ [⟨g0, g1, g2, g3, g4, g5, g6, g7, g8⟩]) := Lib.hid (by rw [replL_step _ HX.out, HLK.out]; rfl)
              have HAN : Hid ((gs.take (k + 1)).any (likeB ⟨g0, g1, g2, g3, g4, g5, g6, g7, g8⟩) = true) := Lib.hid (by rw [any_step _ HX.out, HLK.out]; simp)
              go_wp2_with (first
                | (at_builtin; refine wpList_append_own _ rfl _ _ 28 rfl w2.heap.size 39 i0 zeroG 9 64 und_rgrabs hi hz0 hz1 hz2 rfl (by decide) _ _ _ rfl (HO4.out.alloc _) ⟨W4.heap.size, 0, none⟩ 1 1 (gL ⟨g0, g1, g2, g3, g4, g5, g6, g7, g8⟩) rfl rfl ?c1 ?c2 ?c3 ?c4 ?c5 ?_))
              case c1 =>
                intro j z hj
                first | (rw [show (⟨W4.heap.size, 0, none⟩ : Addr).add j = ⟨W4.heap.size, j, none⟩ by unfold Addr.add; split <;> simp_all]; exact cell_new (by simpa [gL] using hj)) | exact hj | simpa [gL] using hj
              case c2 => intro z hz; exact one_g [⟨g0, g1, g2, g3, g4, g5, g6, g7, g8⟩] z (by simpa [cellsG] using hz)
              case c3 => unfold maxLen; omega
              case c4 => omega
              case c5 => first | omega | (simp; omega)
              intro v' w5 hown' hgrow _
              have hb1 : Below w2.heap.size w2 w5 := (HJ4.out.alloc HJ4.out.size _).grown hgrow (by simp; omega) (fun j hj => (HO4.out.lt j hj).1)
              have hown2 : OwnH w5 w2.heap.size v' (replL ⟨g0, g1, g2, g3, g4, g5, g6, g7, g8⟩ (gs.take (k + 1))) := by
                unfold OwnH
                rw [HRS.out, cellsG_snoc, List.length_append, replL_len, List.length_take, HN.out, Nat.min_eq_left hk]
                exact hown'
              have HO3 := Lib.hid hown2
              clear hown' hgrow hown2
              go_wp2_with fail
              go_roundw
              case rel => exact ⟨k + 1, by omega, by go_num, HO3.out, by rw [HAN.out], hb1⟩
              case measure => simp [intOf] <;> omega
            | false =>
              have HRS : Hid (replL ⟨g0, g1, g2, g3, g4, g5, g6, g7, g8⟩ (gs.take (k + 1)) = replL ⟨g0, g1, g2, g3, g4, g5, g6, g7, g8⟩ (gs.take k) ++ [⟨a0, a1, a2, a3, a4, a5, a6, a7, a8⟩]) := Lib.hid (by rw [replL_step _ HX.out, HLK.out]; rfl)
              have HAN : Hid ((gs.take (k + 1)).any (likeB ⟨g0, g1, g2, g3, g4, g5, g6, g7, g8⟩) = (gs.take k).any (likeB ⟨g0, g1, g2, g3, g4, g5, g6, g7, g8⟩)) := Lib.hid (by rw [any_step _ HX.out, HLK.out]; simp)
              go_wp2_with (first
                | (at_builtin; refine wpList_append_own _ rfl _ _ 28 rfl w2.heap.size 39 i0 zeroG 9 64 und_rgrabs hi hz0 hz1 hz2 rfl (by decide) _ _ _ rfl (HO4.out.alloc _) ⟨W4.heap.size, 0, none⟩ 1 1 (gL ⟨a0, a1, a2, a3, a4, a5, a6, a7, a8⟩) rfl rfl ?c1 ?c2 ?c3 ?c4 ?c5 ?_))
              case c1 =>
                intro j z hj
                first | (rw [show (⟨W4.heap.size, 0, none⟩ : Addr).add j = ⟨W4.heap.size, j, none⟩ by unfold Addr.add; split <;> simp_all]; exact cell_new (by simpa [gL] using hj)) | exact hj | simpa [gL] using hj
              case c2 => intro z hz; exact one_g [⟨a0, a1, a2, a3, a4, a5, a6, a7, a8⟩] z (by simpa [cellsG] using hz)
              case c3 => unfold maxLen; omega
              case c4 => omega
              case c5 => first | omega | (simp; omega)
              intro v' w5 hown' hgrow _
              have hb1 : Below w2.heap.size w2 w5 := (HJ4.out.alloc HJ4.out.size _).grown hgrow (by simp; omega) (fun j hj => (HO4.out.lt j hj).1)
              have hown2 : OwnH w5 w2.heap.size v' (replL ⟨g0, g1, g2, g3, g4, g5, g6, g7, g8⟩ (gs.take (k + 1))) := by
                unfold OwnH
                rw [HRS.out, cellsG_snoc, List.length_append, replL_len, List.length_take, HN.out, Nat.min_eq_left hk]
                exact hown'
              have HO3 := Lib.hid hown2
              clear hown' hgrow hown2
              go_wp2_with fail
              go_roundw
              case rel => exact ⟨k + 1, by omega, by go_num, HO3.out, by rw [HAN.out], hb1⟩
              case measure => simp [intOf] <;> omega
        · obtain rfl : k = n := by omega
          have ho := HOWN.out
          rw [List.take_of_length_le (by rw [HN.out]; exact Nat.le_refl _)] at ho ⊢
          have HO := Lib.hid ho
          clear ho HOWN
          have HQ4 := Lib.hid (q_step HQ2.out J)
          cases hlk : gs.any (likeB ⟨g0, g1, g2, g3, g4, g5, g6, g7, g8⟩) with
          | true =>
            have HR : Hid (addE ⟨g0, g1, g2, g3, g4, g5, g6, g7, g8⟩ gs = 0 ∧ raddL ⟨g0, g1, g2, g3, g4, g5, g6, g7, g8⟩ gs = replL ⟨g0, g1, g2, g3, g4, g5, g6, g7, g8⟩ gs) := Lib.hid (by unfold addE raddL; rw [HNN.out, HCA.out, hlk]; simp)
            clear hlk
            go_wp2_with fail
            go_returns
            exact ⟨_, by first | (rw [HR.out.1]; done) | (rw [HR.out.1]; rfl) | (simp [HR.out.1]; done), by rw [HR.out.2]; exact ownH_is HO.out, Or.inr (fun b o n c e => Nat.le_trans HQ2.out.size (own_farH HO.out b o n c e)), HQ4.out⟩
          | false =>
            have HLN := Lib.hid hlk
            clear hlk
            by_cases h256 : 256 ≤ k
            · have hz : (256 : Int) ≤ (k : Int) := by omega
              have HR : Hid (addE ⟨g0, g1, g2, g3, g4, g5, g6, g7, g8⟩ gs = 12 ∧ raddL ⟨g0, g1, g2, g3, g4, g5, g6, g7, g8⟩ gs = gs) := Lib.hid (by unfold addE raddL; rw [HNN.out, HCA.out, HLN.out, HN.out]; simp [h256])
              go_wp2_with fail
              go_returns
              exact ⟨_, by first | (rw [HR.out.1]; done) | (rw [HR.out.1]; rfl) | (simp [HR.out.1]; done), by rw [HR.out.2]; exact HIS.out.below HQ4.out, Or.inl rfl, HQ4.out⟩
            · have hz : ¬ (256 : Int) ≤ (k : Int) := by omega
              have HR : Hid (addE ⟨g0, g1, g2, g3, g4, g5, g6, g7, g8⟩ gs = 0 ∧ raddL ⟨g0, g1, g2, g3, g4, g5, g6, g7, g8⟩ gs = gs ++ [⟨g0, g1, g2, g3, g4, g5, g6, g7, g8⟩]) := Lib.hid (by unfold addE raddL; rw [HNN.out, HCA.out, HLN.out, HN.out]; simp [h256])
              have HO4 : Hid (wr.ownsRow w2.heap.size 39 9 u8 k (cellsG gs)) := Lib.hid (by
                have h := HO.out
                unfold OwnH at h
                rw [replL_none _ _ HLN.out, HN.out] at h
                exact h)
              have hz4 : w2.heap.size ≤ wr.heap.size := J.size
              have HJ4 := Lib.hid J
              go_wp2_with (first
                | (at_builtin; refine wpList_append_own _ rfl _ _ 28 rfl w2.heap.size 39 i0 zeroG 9 64 und_rgrabs hi hz0 hz1 hz2 rfl (by decide) _ _ _ rfl (HO4.out.alloc _) ⟨wr.heap.size, 0, none⟩ 1 1 (gL ⟨g0, g1, g2, g3, g4, g5, g6, g7, g8⟩) rfl rfl ?c1 ?c2 ?c3 ?c4 ?c5 ?_))
              case c1 =>
                intro j z hj
                first | (rw [show (⟨wr.heap.size, 0, none⟩ : Addr).add j = ⟨wr.heap.size, j, none⟩ by unfold Addr.add; split <;> simp_all]; exact cell_new (by simpa [gL] using hj)) | exact hj | simpa [gL] using hj
              case c2 => intro z hz; exact one_g [⟨g0, g1, g2, g3, g4, g5, g6, g7, g8⟩] z (by simpa [cellsG] using hz)
              case c3 => unfold maxLen; omega
              case c4 => omega
              case c5 => first | omega | (simp; omega)
              intro v' w5 hown' hgrow _
              have hb1 : Below w2.heap.size w2 w5 := (HJ4.out.alloc HJ4.out.size _).grown hgrow (by simp; omega) (fun j hj => (HO4.out.lt j hj).1)
              have hown2 : OwnH w5 w2.heap.size v' (gs ++ [⟨g0, g1, g2, g3, g4, g5, g6, g7, g8⟩]) := by
                unfold OwnH
                rw [cellsG_snoc, List.length_append, HN.out]
                exact hown'
              have HO3 := Lib.hid (ownH_is hown2)
              have HO3F := Lib.hid (own_farH hown2)
              clear hown' hgrow hown2
              go_wp2_with fail
              go_returns
              exact ⟨_, by first | (rw [HR.out.1]; done) | (rw [HR.out.1]; rfl) | (simp [HR.out.1]; done), by rw [HR.out.2]; exact HO3.out, Or.inr (fun b o n c e => Nat.le_trans HQ2.out.size (HO3F.out b o n c e)), q_step HQ2.out hb1⟩
end Go.Proofs.Ytmcndiljldbkcaa
