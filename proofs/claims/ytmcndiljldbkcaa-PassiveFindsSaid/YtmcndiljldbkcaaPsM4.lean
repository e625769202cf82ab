/- Layer 38: Ps40, Ps41, Ps42 put together. -/
import Derived.Test.YtmcndiljldbkcaaPsM3
import Derived.Test.YtmcndiljldbkcaaPs28
import Derived.Test.YtmcndiljldbkcaaPs26
/- Layer 38: no two grabs of a table alike; the two ways of adding are one. -/
namespace Go.Proofs.Ytmcndiljldbkcaa
open Go Go.RowKit
set_option linter.unusedSimpArgs false
set_option linter.unusedVariables false
/-- No two are alike. -/
def UniqG (gs : List G) : Prop := gs.Pairwise (fun x y => likeB x y = false)
theorem like_iff (g x : G) : likeB g x = true ↔ (x.cl = g.cl ∧ x.wi = g.wi ∧ x.bu = g.bu ∧ x.co = g.co ∧ x.mo = g.mo) := by
  unfold likeB
  simp [and_assoc]
def putG (g x : G) : G := if likeB g x = true then g else x
theorem like_put (g x y : G) : likeB (putG g x) (putG g y) = likeB x y := by
  have e : ∀ z, (putG g z).cl = z.cl ∧ (putG g z).wi = z.wi ∧ (putG g z).bu = z.bu ∧ (putG g z).co = z.co ∧ (putG g z).mo = z.mo := by
    intro z
    unfold putG
    by_cases h : likeB g z = true
    · rw [if_pos h]
      obtain ⟨h1, h2, h3, h4, h5⟩ := (like_iff g z).1 h
      exact ⟨h1.symm, h2.symm, h3.symm, h4.symm, h5.symm⟩
    · rw [if_neg h]; exact ⟨rfl, rfl, rfl, rfl, rfl⟩
  obtain ⟨a1, a2, a3, a4, a5⟩ := e x
  obtain ⟨b1, b2, b3, b4, b5⟩ := e y
  rw [Bool.eq_iff_iff, like_iff, like_iff, a1, a2, a3, a4, a5, b1, b2, b3, b4, b5]
theorem like_two {g x y : G} (h : likeB g x = true) (h' : likeB g y = true) : likeB x y = true := by
  rw [like_iff] at *
  obtain ⟨a1, a2, a3, a4, a5⟩ := h
  obtain ⟨b1, b2, b3, b4, b5⟩ := h'
  exact ⟨b1.trans a1.symm, b2.trans a2.symm, b3.trans a3.symm, b4.trans a4.symm, b5.trans a5.symm⟩
theorem repl_set (g : G) : ∀ {gs : List G}, UniqG gs → gs.any (likeB g) = true → replL g gs = gs.set (gs.findIdx (likeB g)) g
  | [], _, h => by simp at h
  | x :: gs, hu, h => by
    have hc := List.pairwise_cons.1 hu
    by_cases hx : likeB g x = true
    · have hno : gs.any (likeB g) = false := by
        rw [List.any_eq_false]
        intro y hy h2
        have h3 := hc.1 y hy
        rw [like_two hx h2] at h3
        exact absurd h3 (by decide)
      rw [List.findIdx_cons, hx]
      have hr := replL_none g gs hno
      unfold replL at hr ⊢
      rw [List.map_cons, if_pos hx, hr]
      rfl
    · have hx' : likeB g x = false := by simpa using hx
      rw [List.any_cons, hx', Bool.false_or] at h
      have ih := repl_set g hc.2 h
      rw [List.findIdx_cons, hx']
      unfold replL at ih ⊢
      rw [List.map_cons, if_neg hx, ih]
      rfl
theorem radd_add (g : G) {gs : List G} (hu : UniqG gs) : raddL g gs = addL g gs := by
  unfold raddL addL
  by_cases h : gs.any (likeB g) = true
  · rw [if_pos h, if_pos h, repl_set g hu h]
  · rw [if_neg h, if_neg h]
theorem uniq_left {p : G → Bool} {gs : List G} (h : UniqG gs) : UniqG (leftL p gs) := List.Pairwise.filter _ h
theorem uniq_radd (g : G) {gs : List G} (h : UniqG gs) : UniqG (raddL g gs) := by
  unfold raddL
  split
  · exact h
  split
  · exact h
  split
  · show UniqG (gs.map (putG g))
    unfold UniqG
    rw [List.pairwise_map]
    exact h.imp fun {x y} hxy => by rw [like_put]; exact hxy
  split
  · exact h
  · rename_i h1 h2 h3 h4
    unfold UniqG
    rw [List.pairwise_append]
    refine ⟨h, List.pairwise_singleton _ _, fun x hx y hy => ?_⟩
    simp at hy
    rw [hy]
    cases hxy : likeB x g with
    | false => rfl
    | true =>
      exfalso
      apply h3
      rw [List.any_eq_true]
      refine ⟨x, hx, ?_⟩
      rw [like_iff] at hxy ⊢
      obtain ⟨a1, a2, a3, a4, a5⟩ := hxy
      exact ⟨a1.symm, a2.symm, a3.symm, a4.symm, a5.symm⟩
theorem uniq_add (g : G) {gs : List G} (h : UniqG gs) : UniqG (addL g gs) := by rw [← radd_add g h]; exact uniq_radd g h
theorem isG_nil {w : World} {A : Option Addr} {cap : Nat} : IsG w (.slice A 0 cap) [] := ⟨A, cap, rfl, fun h => by simp at h⟩
end Go.Proofs.Ytmcndiljldbkcaa
/- Layer 38: All and Add of any table. -/
namespace Go.Proofs.Ytmcndiljldbkcaa
open Go Go.RowKit
set_option linter.unusedSimpArgs false
set_option linter.unusedVariables false
set_option maxRecDepth 100000 in
theorem all_i (v : Value) (gs : List G) (w : World) (hv : IsG w v gs) (hl : gs.length ≤ 1000) :
    Calls Try.prog 22 #[.agg #[v]] w fun e w' => ∃ v', e = .returned v' ∧ OwnG w' w.heap.size v' gs ∧ Below w.heap.size w w' := by
  obtain ⟨A, cap, rfl, _⟩ := id hv
  have HT := Lib.hid hv
  clear hv
  go_enter Try.func22, Try.ntmps22
  go_wp2_with fail
  refine (clone_i _ gs _ (HT.out.below (by (repeat' (first | with_reducible exact Below.refl _ _ | with_reducible assumption | with_reducible refine q_alloc ?_ _ | with_reducible refine q_drew ?_ | with_reducible refine q_drewN _ ?_ | with_reducible refine q_setCell ?_ ?_ _ | (left; simp; done) | (right; simp; done) | (right; dsimp only; omega) | (left; dsimp only; omega))))) hl).mono ?_
  rintro e w5 ⟨v5, rfl, ho5, hb⟩
  have HO := Lib.hid (own_le (base' := w.heap.size) ho5 (by simp))
  have hq : Below w.heap.size w w5 := q_step (q_alloc (Below.refl _ _) _) hb
  clear ho5 hb
  go_wp2_with fail
  go_returns
  exact ⟨_, rfl, HO.out, hq⟩
set_option maxRecDepth 100000 in
set_option maxHeartbeats 8000000 in
theorem add_badI (g : G) (N : Int) (hN : chkN g = N) (h0 : N ≠ 0) (v : Value) (gs : List G) (w : World) (hv : IsG w v gs) :
    Calls Try.prog 21 #[.agg #[v], gV g] w fun e w' => e = .returned (.tuple #[.agg #[v], i6 N]) ∧ Below w.heap.size w w' := by
  obtain ⟨A, cap, rfl, _⟩ := id hv
  have hq := fun W => check_any g W
  rw [hN] at hq
  have HCK := Lib.hid hq
  clear hv hq hN
  have hn : (N != 0) = true := by simpa using h0
  obtain ⟨n, hn'⟩ : ∃ n, gs.length = n := ⟨_, rfl⟩
  rw [hn']
  clear hn'
  go_enter Try.func21, Try.ntmps21
  go_wp2_with fail
  refine calls_world (fun W => Below w.heap.size w W ∧ Blk W w.heap.size [.slice A n cap] ∧ Blk W (w.heap.size + 1) (gL g) ∧ Blk W (w.heap.size + 1 + 1) [.slice none 0 0]) ⟨by (repeat' (first | with_reducible exact Below.refl _ _ | with_reducible assumption | with_reducible refine q_alloc ?_ _ | with_reducible refine q_drew ?_ | with_reducible refine q_drewN _ ?_ | with_reducible refine q_setCell ?_ ?_ _ | (left; simp; done) | (right; simp; done) | (right; dsimp only; omega) | (left; dsimp only; omega))), ((Blk.new rfl).alloc _).alloc _, (blk_new1 rfl).alloc _, blk_new2 rfl⟩ ?_
  intro W1 ⟨hq1, b1, b2, b3⟩
  refine (HCK.out _).mono ?_
  rintro e w2 ⟨rfl, hb⟩
  have hq3 := q_step hq1 hb
  have c1 := b1.below hb
  have c3 := b3.below hb
  have d0 := c1.cell 0 rfl
  have e0 := c3.cell 0 rfl
  have f0 := c3.froz 0 rfl
  have hlt := c3.lt
  clear b1 b2 b3 hq1 hb c1 HCK
  go_wp2_with fail
  refine body_world (fun W => Below w.heap.size w W ∧ Blk W (w.heap.size + 1 + 1) [.slice A n cap]) ⟨by (repeat' (first | with_reducible exact Below.refl _ _ | with_reducible assumption | with_reducible refine q_alloc ?_ _ | with_reducible refine q_drew ?_ | with_reducible refine q_drewN _ ?_ | with_reducible refine q_setCell ?_ ?_ _ | (left; simp; done) | (right; simp; done) | (right; dsimp only; omega) | (left; dsimp only; omega))), c3.set 0 _ (by simp) rfl⟩ ?_
  intro W9 ⟨hq9, b9⟩
  clear d0 e0 f0 c3
  have d0 := b9.cell 0 rfl
  exact bodyPost_ret (v := .tuple #[.agg #[.slice A n cap], i6 N]) (by simp [results, Try.results21, go_sem, d0]) rfl ⟨rfl, hq9⟩
theorem add_i (g : G) (v : Value) (gs : List G) (w : World) (hv : IsG w v gs) (hl : gs.length ≤ 256) :
    Calls Try.prog 21 #[.agg #[v], gV g] w fun e w' => ∃ v', e = .returned (.tuple #[.agg #[v'], i6 (addE g gs)]) ∧ IsG w' v' (addL g gs) ∧ ((v' = v ∧ addL g gs = gs) ∨ FarG w.heap.size v') ∧ Below w.heap.size w w' := by
  rcases Nat.eq_zero_or_pos gs.length with h0 | h0
  · obtain rfl : gs = [] := List.eq_nil_of_length_eq_zero h0
    by_cases h1 : chkN g ≠ 0
    · have e1 : addE g [] = chkN g := by unfold addE; rw [if_pos h1]
      have e2 : addL g [] = [] := by unfold addL; rw [if_pos h1]
      rw [e1, e2]
      refine (add_badI g _ rfl h1 v [] w hv).mono ?_
      rintro e w' ⟨rfl, hb⟩
      exact ⟨v, rfl, hv.below hb, Or.inl ⟨rfl, rfl⟩, hb⟩
    · have hr : RightG g := Classical.not_not.1 fun h => h1 (chk_wrong h)
      have e1 : addE g [] = 0 := by unfold addE; rw [if_neg h1]; simp
      have e2 : addL g [] = [g] := by unfold addL; rw [if_neg h1]; simp
      rw [e1, e2]
      refine (add_newI g hr v [] w hv (by simp) rfl rfl).mono ?_
      rintro e w' ⟨v', rfl, ho, hb⟩
      exact ⟨v', rfl, ownG_is ho, Or.inr (own_far ho), hb⟩
  · refine (add_more g v gs w (Or.inr ⟨h0, hv⟩) hl).mono ?_
    rintro e w' ⟨v', rfl, ht, hf, hb⟩
    refine ⟨v', rfl, ht.is, ?_, hb⟩
    rcases hf with h | ⟨_, b, cap, rfl, hbs⟩
    · exact Or.inl h
    · right
      rintro b' o n c e
      injection e with e1
      injection e1 with e1
      injection e1 with e1
      omega
end Go.Proofs.Ytmcndiljldbkcaa
/- Layer 38: has any table just these. -/
namespace Go.Proofs.Ytmcndiljldbkcaa
open Go Go.RowKit
set_option linter.unusedSimpArgs false
set_option linter.unusedVariables false
set_option maxRecDepth 100000 in
set_option maxHeartbeats 8000000 in
theorem all_trueI (tv lv : Value) (gs : List G) (w : World) (ht : IsG w tv gs) (hv : IsG w lv gs) (hl : gs.length ≤ 1000) :
    Calls Try.prog 25 #[.agg #[tv], lv] w fun e w' => e = .returned (.bool true) ∧ Below w.heap.size w w' := by
  obtain ⟨A, cap, rfl, hf⟩ := hv
  have HF := Lib.hid hf
  have HT := Lib.hid ht
  obtain ⟨tA, tcap, rfl, _⟩ := id ht
  clear hf ht
  obtain ⟨n, hn⟩ : ∃ n, gs.length = n := ⟨_, rfl⟩
  rw [hn] at HF HT hl ⊢
  have HN := Lib.hid hn
  clear hn
  go_enter Try.func25, Try.ntmps25
  go_wp2_with fail
  refine calls_world (fun W => Below w.heap.size w W) (by (repeat' (first | with_reducible exact Below.refl _ _ | with_reducible assumption | with_reducible refine q_alloc ?_ _ | with_reducible refine q_drew ?_ | with_reducible refine q_drewN _ ?_ | with_reducible refine q_setCell ?_ ?_ _ | (left; simp; done) | (right; simp; done) | (right; dsimp only; omega) | (left; dsimp only; omega)))) ?_
  intro W1 hq1
  refine (all_i _ gs _ (HT.out.below hq1) (by rw [HN.out]; exact hl)).mono ?_
  rintro e w5 ⟨v5, rfl, ho5, hb⟩
  have is5 := ownG_is ho5
  have HQ5 := Lib.hid (q_step hq1 hb)
  obtain ⟨A3, cap3, rfl, hf5⟩ := is5
  have HF5 := Lib.hid hf5
  rw [HN.out] at HF5 ⊢
  clear hf5 ho5 hb hq1
  go_wp2_with fail
  go_loopw [6] (fun i wr => ∃ k : Nat, k ≤ n ∧ i = .int .i64 k ∧ Below w5.heap.size w5 wr)
    (fun i _ => n - (intOf i).toNat)
  case atStart => exact ⟨0, Nat.zero_le _, rfl, Below.refl _ _⟩
  case round =>
    obtain ⟨k, hk, rfl, J⟩ := hrel
    by_cases hlt : k < n
    · obtain ⟨b, off, rfl, hb, hlay⟩ := HF.out (by omega)
      obtain ⟨b2, off2, rfl, hb2, hlay2⟩ := HF5.out (by omega)
      obtain ⟨x, hx⟩ : ∃ x, gs[k]? = some x := ⟨_, List.getElem?_eq_getElem (by rw [HN.out]; exact hlt)⟩
      have hki : (k : Int) < (n : Int) := by omega
      have hlx := fun j u hj => cell_below HQ5.out (hlay k x hx j u hj)
      have hly := fun j u hj => hlay2 k x hx j u hj
      obtain ⟨a0, a1, a2, a3, a4, a5, a6, a7, a8⟩ := x
      have d0 := stick (hlx 0 _ rfl)
      have e0 := stick (hly 0 _ rfl)
      have d1 := stick (hlx 1 _ rfl)
      have e1 := stick (hly 1 _ rfl)
      have d2 := stick (hlx 2 _ rfl)
      have e2 := stick (hly 2 _ rfl)
      have d3 := stick (hlx 3 _ rfl)
      have e3 := stick (hly 3 _ rfl)
      have d4 := stick (hlx 4 _ rfl)
      have e4 := stick (hly 4 _ rfl)
      have d5 := stick (hlx 5 _ rfl)
      have e5 := stick (hly 5 _ rfl)
      have d6 := stick (hlx 6 _ rfl)
      have e6 := stick (hly 6 _ rfl)
      have d7 := stick (hlx 7 _ rfl)
      have e7 := stick (hly 7 _ rfl)
      have d8 := stick (hlx 8 _ rfl)
      have e8 := stick (hly 8 _ rfl)
      rw [Nat.add_zero] at d0 e0
      dsimp only at d0 d1 d2 d3 d4 d5 d6 d7 d8 e0 e1 e2 e3 e4 e5 e6 e7 e8
      clear hlx hly hlay hlay2 hx
      go_upto_region 7 with fail
      go_cut [29] from 18 to 30 (fun s wx => s = .bool false ∧ Below w5.heap.size w5 wx)
      case first =>
        go_region_held3 (fun w' => Below w5.heap.size w5 w')
          (first | with_reducible exact J | with_reducible exact J.drew | with_reducible exact q_alloc J _ | with_reducible exact q_alloc J.drew _ | ((repeat' (first | with_reducible exact Below.refl _ _ | with_reducible assumption | with_reducible refine q_alloc ?_ _ | with_reducible refine q_drew ?_ | with_reducible refine q_drewN _ ?_ | with_reducible refine q_setCell ?_ ?_ _ | (left; simp; done) | (right; simp; done) | (right; dsimp only; omega) | (left; dsimp only; omega))); done))
          (first
            | (go_at_call 16; refine (of9 _ _ _ _ _ _ _ _ _ _).mono ?_; rintro e w6 ⟨rfl, hb⟩; have J5 : Below w5.heap.size w5 w6 := q_step (by first | with_reducible exact J | with_reducible exact J.drew | with_reducible exact q_alloc J _ | with_reducible exact q_alloc J.drew _ | ((repeat' (first | with_reducible exact Below.refl _ _ | with_reducible assumption | with_reducible refine q_alloc ?_ _ | with_reducible refine q_drew ?_ | with_reducible refine q_drewN _ ?_ | with_reducible refine q_setCell ?_ ?_ _ | (left; simp; done) | (right; simp; done) | (right; dsimp only; omega) | (left; dsimp only; omega))); done)) hb; replace J := J5; clear J5 hb))
        all_goals (go_wp2_with fail; go_meet; exact ⟨by first | rfl | (simp; done), by (repeat' (first | with_reducible exact Below.refl _ _ | with_reducible assumption | with_reducible refine q_alloc ?_ _ | with_reducible refine q_drew ?_ | with_reducible refine q_drewN _ ?_ | with_reducible refine q_setCell ?_ ?_ _ | (left; simp; done) | (right; simp; done) | (right; dsimp only; omega) | (left; dsimp only; omega)))⟩)
      case rest =>
        obtain ⟨rfl, J4⟩ := hcut
        obtain ⟨W4, rfl⟩ : ∃ W : World, W = wc := ⟨_, rfl⟩
        replace J := J4
        clear J4
        go_wp2_with fail
        go_roundw
        case rel => exact ⟨k + 1, by omega, by go_num, J⟩
        case measure => simp [intOf] <;> omega
    · obtain rfl : k = n := by omega
      go_wp2_with fail
      go_returns
      exact ⟨by first | rfl | (simp; done), q_step HQ5.out J⟩
end Go.Proofs.Ytmcndiljldbkcaa
