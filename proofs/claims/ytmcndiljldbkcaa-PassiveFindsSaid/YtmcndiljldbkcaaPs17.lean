/- Layer 38: PassiveFull's walk. -/
import Derived.Test.YtmcndiljldbkcaaPs16
import Derived.Test.YtmcndiljldbkcaaPs15
import Derived.Test.YtmcndiljldbkcaaPs9
namespace Go.Proofs.Ytmcndiljldbkcaa
open Go Go.RowKit
set_option linter.unusedSimpArgs false
set_option linter.unusedVariables false
set_option maxRecDepth 100000 in
theorem all_any (v : Value) (gs : List G) (w : World) (hv : TabG w v gs) (hl : gs.length ≤ 1000) :
    Calls Try.prog 22 #[.agg #[v]] w fun e w' => ∃ v', e = .returned v' ∧ OwnG w' w.heap.size v' gs ∧ Below w.heap.size w w' := by
  obtain ⟨A, cap, rfl, _⟩ := hv.is
  have HT := Lib.hid hv
  clear hv
  go_enter Try.func22, Try.ntmps22
  go_wp2_with fail
  refine (clone_any _ gs _ (HT.out.below (by (repeat' (first | with_reducible exact Below.refl _ _ | with_reducible assumption | with_reducible refine q_alloc ?_ _ | with_reducible refine q_drew ?_ | with_reducible refine q_drewN _ ?_ | with_reducible refine q_setCell ?_ ?_ _ | (left; simp; done) | (right; simp; done) | (right; dsimp only; omega) | (left; dsimp only; omega))))) hl).mono ?_
  rintro e w5 ⟨v5, rfl, ho5, hb⟩
  have HO := Lib.hid (own_le (base' := w.heap.size) ho5 (by simp))
  have hq : Below w.heap.size w w5 := q_step (q_alloc (Below.refl _ _) _) hb
  clear ho5 hb
  go_wp2_with fail
  go_returns
  exact ⟨_, rfl, HO.out, hq⟩
def gk (m : Int) (i : Nat) : G := ⟨1 + (i : Int) % 3, 100 + (i : Int), false, 5, m, false, 0, 0, 0⟩
def gz (m : Int) : G := ⟨1, 100, false, 5, m, true, 0, 0, 0⟩
def gsk (m : Int) (k : Nat) : List G := (List.range k).map (gk m)
theorem gsk_len (m : Int) (k : Nat) : (gsk m k).length = k := by simp [gsk]
theorem gsk_succ (m : Int) (k : Nat) : gsk m (k + 1) = gsk m k ++ [gk m k] := by simp [gsk, List.range_succ]
theorem gk_ok (m : Int) (hm : 0 ≤ m ∧ m ≤ 255) (i : Nat) : RightG (gk m i) :=
  ⟨by unfold gk; dsimp only; omega, by unfold gk; dsimp only; omega, by unfold gk mostC; simp, Or.inr hm, by unfold gk; simp, Or.inl rfl, Or.inl rfl⟩
theorem gz_ok (m : Int) (hm : 0 ≤ m ∧ m ≤ 255) : RightG (gz m) :=
  ⟨by unfold gz; simp, by unfold gz; simp, by unfold gz mostC; simp, Or.inr hm, by unfold gz; simp, Or.inl rfl, Or.inl rfl⟩
theorem gsk_conf (m : Int) (k n : Nat) (h : n ≤ k) : (gsk m n).any (conflB (gk m k)) = false := by
  rw [List.any_eq_false]
  intro x hx
  obtain ⟨i, hi, rfl⟩ := List.mem_map.1 hx
  rw [List.mem_range] at hi
  have hw : decide ((gk m k).wi = (gk m i).wi) = false := decide_eq_false (by unfold gk; dsimp only; omega)
  unfold conflB meetG
  rw [hw]; simp
theorem gsk_like (m : Int) (k n : Nat) (h : n ≤ k) : (gsk m n).any (likeB (gk m k)) = false := by
  rw [List.any_eq_false]
  intro x hx
  obtain ⟨i, hi, rfl⟩ := List.mem_map.1 hx
  rw [List.mem_range] at hi
  have hw : decide ((gk m i).wi = (gk m k).wi) = false := decide_eq_false (by unfold gk; dsimp only; omega)
  unfold likeB
  rw [hw]; simp
theorem gz_conf (m : Int) (n : Nat) : (gsk m n).any (conflB (gz m)) = false := by
  rw [List.any_eq_false]
  intro x hx
  obtain ⟨i, hi, rfl⟩ := List.mem_map.1 hx
  unfold conflB meetG
  by_cases h0 : i = 0
  · subst h0
    have hc : decide ((gk m 0).cl = (gz m).cl) = true := decide_eq_true (by unfold gk gz; simp)
    rw [hc]; simp
  · have hw : decide ((gz m).wi = (gk m i).wi) = false := decide_eq_false (by unfold gk gz; dsimp only; omega)
    rw [hw]; simp
theorem gz_likes (m : Int) (i : Nat) : likeB (gz m) (gk m i) = true ↔ i = 0 := by
  unfold likeB
  constructor
  · intro h
    simp only [Bool.and_eq_true, decide_eq_true_eq] at h
    have := h.1.1.1.2
    unfold gk gz at this
    dsimp only at this
    omega
  · rintro rfl
    unfold gk gz
    simp
theorem gz_like (m : Int) (n : Nat) (hn : 0 < n) : (gsk m n).any (likeB (gz m)) = true := by
  rw [List.any_eq_true]
  exact ⟨gk m 0, List.mem_map.2 ⟨0, List.mem_range.2 hn, rfl⟩, (gz_likes m 0).2 rfl⟩
theorem gz_at (m : Int) (n k : Nat) (x : G) (h : (gsk m n)[k]? = some x) (hl : likeB (gz m) x = true) : k = 0 := by
  have hk : k < n := by have := (List.getElem?_eq_some_iff.1 h).1; rwa [gsk_len] at this
  have : (gsk m n)[k]? = some (gk m k) := by unfold gsk; rw [List.getElem?_map, List.getElem?_range hk]; rfl
  rw [h] at this
  have hx := Option.some.inj this
  rw [hx] at hl
  exact (gz_likes m k).1 hl
/-- A table that block c holds, and that does not lie in c. -/
def TabC (c : Nat) (w : World) (v : Value) (gs : List G) : Prop := (v = .slice none 0 0 ∧ gs = []) ∨ (0 < gs.length ∧ ∃ b cap, v = .slice (some ⟨b, 0, none⟩) gs.length cap ∧ b ≠ c ∧ TabG w v gs)
theorem TabC.tab {c : Nat} {w : World} {v : Value} {gs : List G} (h : TabC c w v gs) : TabG w v gs := by
  rcases h with h | ⟨_, b, cap, _, _, h⟩
  · exact Or.inl h
  · exact h
theorem TabC.below {c : Nat} {w w' : World} {v : Value} {gs : List G} (h : TabC c w v gs) (hb : Below w.heap.size w w') : TabC c w' v gs := by
  rcases h with h | ⟨h0, b, cap, e, hne, h⟩
  · exact Or.inl h
  · exact Or.inr ⟨h0, b, cap, e, hne, h.below hb⟩
theorem TabC.set {c : Nat} {w : World} {v : Value} {gs : List G} (h : TabC c w v gs) (o : Nat) (u : Value) : TabC c (w.setCell ⟨c, o, none⟩ u) v gs := by
  rcases h with h | ⟨h0, b, cap, rfl, hne, h⟩
  · exact Or.inl h
  · exact Or.inr ⟨h0, b, cap, rfl, hne, tab_far h (Ne.symm hne) o u⟩
theorem TabC.own {c base : Nat} {w : World} {v : Value} {gs : List G} (h : OwnG w base v gs) (hc : c < base) (h0 : 0 < gs.length) : TabC c w v gs := by
  obtain ⟨g, cap, rfl⟩ := Joins.ownsRow_form h h0
  exact Or.inr ⟨h0, g, cap, rfl, by have := (h.lt g rfl).1; omega, tabG_own h h0⟩
theorem own9 (m : Int) (k : Nat) (p q : Int) (hp : p = 1 + (k : Int) % 3) (hq : q = 100 + (k : Int)) (hk : k < 256) (hm : 0 ≤ m ∧ m ≤ 255) (v : Value) (c : Nat) (w : World) (hv : TabC c w v (gsk m k)) (hc : c < w.heap.size) :
    Calls Try.prog 21 #[.agg #[v], .agg #[i6 p, u3 q, .bool false, i6 5, i6 m, .bool false, i6 0, i6 0, i6 0]] w fun e w' => ∃ a cap, e = .returned (.tuple #[.agg #[.slice a (k + 1) cap], i6 0]) ∧ TabC c w' (.slice a (k + 1) cap) (gsk m (k + 1)) ∧ Below w.heap.size w w' := by
  subst hp hq
  refine (add_new (gk m k) (gk_ok m hm k) v (gsk m k) w hv.tab (by rw [gsk_len]; omega) (gsk_conf m k k (Nat.le_refl _)) (gsk_like m k k (Nat.le_refl _))).mono ?_
  rintro e w' ⟨v', rfl, ho, hb⟩
  rw [← gsk_succ] at ho
  have hc' := TabC.own ho hc (by rw [gsk_len]; omega)
  obtain ⟨a, cap, rfl⟩ := own_sl ho
  rw [gsk_len] at hc' ⊢
  exact ⟨a, cap, rfl, hc', hb⟩
theorem full9 (m : Int) (k : Nat) (p q : Int) (hp : p = 1 + (k : Int) % 3) (hq : q = 100 + (k : Int)) (hk : 256 ≤ k) (hm : 0 ≤ m ∧ m ≤ 255) (v : Value) (w : World) (hv : TabG w v (gsk m 256)) :
    Calls Try.prog 21 #[.agg #[v], .agg #[i6 p, u3 q, .bool false, i6 5, i6 m, .bool false, i6 0, i6 0, i6 0]] w fun e w' => e = .returned (.tuple #[.agg #[v], i6 12]) ∧ Below w.heap.size w w' := by
  subst hp hq
  exact add_full (gk m k) (gk_ok m hm k) v (gsk m 256) w hv (by rw [gsk_len]; omega) (by rw [gsk_len]; omega) (gsk_conf m k 256 hk) (gsk_like m k 256 hk)
theorem same9 (m : Int) (hm : 0 ≤ m ∧ m ≤ 255) (v : Value) (w : World) (hv : TabG w v (gsk m 256)) :
    Calls Try.prog 21 #[.agg #[v], .agg #[i6 1, u3 100, .bool false, i6 5, i6 m, .bool true, i6 0, i6 0, i6 0]] w fun e w' => ∃ a cap, e = .returned (.tuple #[.agg #[.slice a 256 cap], i6 0]) ∧ TabG w' (.slice a 256 cap) ((gsk m 256).set 0 (gz m)) ∧ Below w.heap.size w w' := by
  refine (add_same (gz m) (gz_ok m hm) v (gsk m 256) w hv (by rw [gsk_len]; omega) (gz_conf m 256) (gz_like m 256 (by omega))).mono ?_
  rintro e w' ⟨v', k, x, rfl, ⟨hx, hl, _⟩, ht, _, hb⟩
  obtain rfl := gz_at m 256 k x hx hl
  obtain ⟨a, cap, rfl, _⟩ := ht.is
  rw [List.length_set, gsk_len] at ht ⊢
  exact ⟨a, cap, rfl, ht, hb⟩
theorem all9 (m : Int) (v : Value) (w : World) (hv : TabG w v ((gsk m 256).set 0 (gz m))) :
    Calls Try.prog 22 #[.agg #[v]] w fun e w' => ∃ b cap, e = .returned (.slice (some ⟨b, 0, none⟩) 256 cap) ∧ w'.cell? ⟨b, 5, none⟩ = some (.bool true) ∧ Below w.heap.size w w' := by
  have hl : ((gsk m 256).set 0 (gz m)).length = 256 := by rw [List.length_set, gsk_len]
  refine (all_any v _ w hv (by rw [hl]; omega)).mono ?_
  rintro e w' ⟨v', rfl, ho, hb⟩
  obtain ⟨g, cap, rfl⟩ := Joins.ownsRow_form ho (by rw [hl]; omega)
  have hx : ((gsk m 256).set 0 (gz m))[0]? = some (gz m) := by rw [List.getElem?_set_self (by rw [gsk_len]; omega)]
  have h5 := (ho.cellAt (0 * 9 + 5) (by rw [hl]; omega)).trans (cellsG_at _ 0 (gz m) hx 5 (by omega))
  rw [hl]
  exact ⟨g, cap, rfl, h5, hb⟩
set_option maxRecDepth 100000 in
set_option maxHeartbeats 16000000 in
theorem lfull_any (m : Int) (w : World) (hm : 0 ≤ m ∧ m ≤ 255) : Calls Try.prog 9 #[.int .u8 m] w fun e w' => e = .returned (.bool true) ∧ Below w.heap.size w w' := by
  have HM := Lib.hid hm
  go_enter Try.func9, Try.ntmps9
  go_wp2_with fail
  refine code_world (fun W => Below w.heap.size w W ∧ Blk W w.heap.size [.slice none 0 0]) ⟨by (repeat' (first | with_reducible exact Below.refl _ _ | with_reducible assumption | with_reducible refine q_alloc ?_ _ | with_reducible refine q_drew ?_ | with_reducible refine q_drewN _ ?_ | with_reducible refine q_setCell ?_ ?_ _ | (left; simp; done) | (right; simp; done) | (right; dsimp only; omega) | (left; dsimp only; omega))), Blk.new rfl⟩ ?_
  intro W1 ⟨hq1, b1⟩
  obtain ⟨c, hc⟩ : ∃ c, c = w.heap.size := ⟨_, rfl⟩
  have HC := Lib.hid hc
  rw [← hc] at b1 ⊢
  clear hc
  have hz := b1.lt
  go_loopw [4] (fun i wr => ∃ (k n : Nat) (a : Option Addr) (cap : Nat), k ≤ 260 ∧ i = .int .i64 k ∧ n = min k 256 ∧ Blk wr c [.slice a n cap] ∧ TabC c wr (.slice a n cap) (gsk m n) ∧ Below w.heap.size w wr)
    (fun i _ => 260 - (intOf i).toNat)
  case atStart => exact ⟨0, 0, none, 0, by omega, rfl, rfl, b1, Or.inl ⟨rfl, rfl⟩, hq1⟩
  case round =>
    obtain ⟨k, n, a, cap, hk, rfl, hn, bk, ht, hq⟩ := hrel
    have HT := Lib.hid ht
    have HQ := Lib.hid hq
    have HB := Lib.hid bk
    have d0 := bk.cell 0 rfl
    have zk := bk.lt
    clear ht hq bk
    by_cases hlt : k < 260
    · have hki : (k : Int) < 260 := by omega
      have hm1 := hm.1
      have hm2 := hm.2
      by_cases h2 : k < 256
      · obtain rfl : n = k := by omega
        clear hn
        have h3 : (n : Int) < 256 := by omega
        have h4 : ¬ (256 : Int) ≤ (n : Int) := by omega
        go_wp2_with fail
        refine (own9 m n _ _ rfl rfl h2 HM.out _ c _ HT.out zk).mono ?_
        rintro e w5 ⟨a5, cap5, rfl, ht5, hb⟩
        have HQ5 := Lib.hid (q_step HQ.out hb)
        have b5 := HB.out.below hb
        have HT5 := Lib.hid (ht5)
        have z5 := b5.lt
        have B5 := Lib.hid b5
        clear hb b5 d0 zk
        go_upto_region 6 with fail
        refine code_world (fun W => Below w.heap.size w W ∧ Blk W c [.slice a n cap] ∧ Blk W w5.heap.size [.slice a5 (n + 1) cap5] ∧ TabC c W (.slice a5 (n + 1) cap5) (gsk m (n + 1))) ⟨q_alloc HQ5.out _, B5.out.alloc _, Blk.new rfl, HT5.out.below (by (repeat' (first | with_reducible exact Below.refl _ _ | with_reducible assumption | with_reducible refine q_alloc ?_ _ | with_reducible refine q_drew ?_ | with_reducible refine q_drewN _ ?_ | with_reducible refine q_setCell ?_ ?_ _ | (left; simp; done) | (right; simp; done) | (right; dsimp only; omega) | (left; dsimp only; omega))))⟩ ?_
        intro W6 ⟨hq6, b6, b7, t6⟩
        have hne : c ≠ w5.heap.size := by omega
        generalize w5.heap.size = d at b7 hne ⊢
        have e0 := b6.cell 0 rfl
        have f0 := b6.froz 0 rfl
        have g0 := b7.cell 0 rfl
        have z6 := b6.lt
        have HQ6 := Lib.hid hq6
        have B6 := Lib.hid b6
        have T6 := Lib.hid t6
        clear hq6 b6 b7 t6
        go_wp2_with fail
        go_roundw
        case rel => exact ⟨n + 1, (n + 1), a5, cap5, by omega, by go_num, by omega, B6.out.set 0 _ (by simp) rfl, T6.out.set 0 _, q_setCell HQ6.out (Or.inr (by have := HC.out; dsimp only; omega)) _⟩
        case measure => simp [intOf] <;> omega
      · obtain rfl : n = 256 := by omega
        clear hn
        have h3 : ¬ (k : Int) < 256 := by omega
        have h4 : (256 : Int) ≤ (k : Int) := by omega
        go_wp2_with fail
        refine (full9 m k _ _ rfl rfl (by omega) HM.out _ _ HT.out.tab).mono ?_
        rintro e w5 ⟨rfl, hb⟩
        have HQ5 := Lib.hid (q_step HQ.out hb)
        have b5 := HB.out.below hb
        have HT5 := Lib.hid (HT.out.below hb)
        have z5 := b5.lt
        have B5 := Lib.hid b5
        clear hb b5 d0 zk
        go_upto_region 6 with fail
        refine code_world (fun W => Below w.heap.size w W ∧ Blk W c [.slice a 256 cap] ∧ Blk W w5.heap.size [.slice a 256 cap] ∧ TabC c W (.slice a 256 cap) (gsk m 256)) ⟨q_alloc HQ5.out _, B5.out.alloc _, Blk.new rfl, HT5.out.below (by (repeat' (first | with_reducible exact Below.refl _ _ | with_reducible assumption | with_reducible refine q_alloc ?_ _ | with_reducible refine q_drew ?_ | with_reducible refine q_drewN _ ?_ | with_reducible refine q_setCell ?_ ?_ _ | (left; simp; done) | (right; simp; done) | (right; dsimp only; omega) | (left; dsimp only; omega))))⟩ ?_
        intro W6 ⟨hq6, b6, b7, t6⟩
        have hne : c ≠ w5.heap.size := by omega
        generalize w5.heap.size = d at b7 hne ⊢
        have e0 := b6.cell 0 rfl
        have f0 := b6.froz 0 rfl
        have g0 := b7.cell 0 rfl
        have z6 := b6.lt
        have HQ6 := Lib.hid hq6
        have B6 := Lib.hid b6
        have T6 := Lib.hid t6
        clear hq6 b6 b7 t6
        go_wp2_with fail
        go_roundw
        case rel => exact ⟨k + 1, 256, a, cap, by omega, by go_num, by omega, B6.out.set 0 _ (by simp) rfl, T6.out.set 0 _, q_setCell HQ6.out (Or.inr (by have := HC.out; dsimp only; omega)) _⟩
        case measure => simp [intOf] <;> omega
    · obtain rfl : k = 260 := by omega
      obtain rfl : n = 256 := by omega
      clear hn
      have hm1 := hm.1
      have hm2 := hm.2
      go_wp2_with fail
      refine (same9 m HM.out _ _ HT.out.tab).mono ?_
      rintro e w5 ⟨a5, cap5, rfl, ht5, hb⟩
      have HQ5 := Lib.hid (q_step HQ.out hb)
      have HT5 := Lib.hid ht5
      clear hb d0 ht5
      go_upto_region 10 with fail
      refine code_world (fun W => Below w.heap.size w W ∧ Blk W w5.heap.size [.slice a5 256 cap5] ∧ TabG W (.slice a5 256 cap5) ((gsk m 256).set 0 (gz m))) ⟨q_alloc HQ5.out _, Blk.new rfl, HT5.out.below (by (repeat' (first | with_reducible exact Below.refl _ _ | with_reducible assumption | with_reducible refine q_alloc ?_ _ | with_reducible refine q_drew ?_ | with_reducible refine q_drewN _ ?_ | with_reducible refine q_setCell ?_ ?_ _ | (left; simp; done) | (right; simp; done) | (right; dsimp only; omega) | (left; dsimp only; omega))))⟩ ?_
      intro W6 ⟨hq6, b7, t6⟩
      generalize w5.heap.size = d at b7 ⊢
      have x0 := stick (b7.cell 0 rfl)
      have HQ6 := Lib.hid hq6
      have T6 := Lib.hid t6
      have J : Below W6.heap.size W6 W6 := Below.refl _ _
      clear hq6 b7 t6
      go_wp2_with fail
      refine (all9 m _ _ T6.out).mono ?_
      rintro e w7 ⟨b7, p7, rfl, _, hb⟩
      have J7 : Below W6.heap.size W6 w7 := q_step J hb
      replace J := J7
      clear J7 hb
      go_wp2_with fail
      refine (all9 m _ _ (T6.out.below J)).mono ?_
      rintro e w8 ⟨b8, p8, rfl, _, hb⟩
      have J7 : Below W6.heap.size W6 w8 := q_step J hb
      replace J := J7
      clear J7 hb
      go_wp2_with fail
      refine (all9 m _ _ (T6.out.below J)).mono ?_
      rintro e w9 ⟨b9, p9, rfl, d5, hb⟩
      have J7 : Below W6.heap.size W6 w9 := q_step J hb
      replace J := J7
      clear J7 hb
      go_wp2_with fail
      refine (awake38 _).mono ?_
      rintro e w10 ⟨rfl, hb⟩
      go_wp2_with fail
      go_returns
      exact ⟨by first | rfl | (simp; done), q_step HQ6.out (q_step J hb)⟩
end Go.Proofs.Ytmcndiljldbkcaa
