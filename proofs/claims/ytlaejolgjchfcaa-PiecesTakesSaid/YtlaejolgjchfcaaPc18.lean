/- Layer 42: a give and a take, step by step. -/
import Derived.Test.YtlaejolgjchfcaaPc17
import Derived.Test.YtlaejolgjchfcaaPc13
namespace Go.Proofs.Ytlaejolgjchfcaa
open Go Go.RowKit Go.Maps
set_option linter.unusedSimpArgs false
set_option linter.unusedVariables false
def SomeV (v : Value) : Prop := ∃ g n c, v = .slice (some g) n c
set_option linter.unusedSimpArgs false
set_option linter.unusedVariables false
set_option maxRecDepth 100000 in
set_option maxHeartbeats 4000000 in
theorem put_whole (da : Option Addr) (cap : Nat) (us : List Int) (m : Nat) (w : World) (hv : IsI w (.slice da us.length cap) us) (hl : us.length ≤ 65536) :
    Calls Try.prog 13 #[gV (.slice da us.length cap) m 0 1] w fun e w' => ∃ v, e = .returned (.tuple #[pV false us.length v true, .bool true]) ∧ IsI w' v us ∧ SomeV v ∧ Below w.heap.size w w' := by
  have HV := Lib.hid hv
  clear hv
  obtain ⟨D, hD⟩ : ∃ D, decide ((1 : Int) ≤ (0 : Int)) = D := ⟨_, rfl⟩
  obtain rfl : false = D := by rw [← hD]; simp
  go_enter Try.func13, Try.ntmps13
  go_wp2_with fail
  refine calls_world (fun W => Below w.heap.size w W ∧ Blk W w.heap.size [.slice da us.length cap, i6 m, i6 0, i6 1] ∧ Blk W (w.heap.size + 1) [.bool false, i6 0, .slice none 0 0, .bool false]) ⟨by (repeat' (first | with_reducible exact Below.refl _ _ | with_reducible assumption | with_reducible refine q_alloc ?_ _ | with_reducible refine q_drew ?_ | with_reducible refine q_drewN _ ?_ | with_reducible refine q_setCell ?_ ?_ _ | (left; simp; done) | (right; simp; done) | (right; dsimp only; omega) | (left; dsimp only; omega))), (Blk.new rfl).alloc _, blk_new1 rfl⟩ ?_
  intro W1 ⟨hq1, b0, b1⟩
  refine (done_any (.slice da us.length cap) m 0 1 _).mono ?_
  rintro e w2 ⟨rfl, hb⟩
  rw [hD]
  clear hD
  replace b0 := b0.below hb
  replace b1 := b1.below hb
  have hq := q_step hq1 hb
  clear hb hq1
  have c0 := b0.cell 0 rfl
  have c1 := b0.cell 1 rfl
  have c2 := b0.cell 2 rfl
  have c3 := b0.cell 3 rfl
  have d0 := b1.cell 0 rfl
  have d1 := b1.cell 1 rfl
  have d2 := b1.cell 2 rfl
  have d3 := b1.cell 3 rfl
  have e0 := b1.froz 0 rfl
  have e1 := b1.froz 1 rfl
  have e2 := b1.froz 2 rfl
  have e3 := b1.froz 3 rfl
  have hgt : w.heap.size + 1 < w2.heap.size := b1.lt
  go_upto_region 4 with fail
  go_region_with (first
    | (go_at_call 28; refine (copied_any _ us _ (HV.out.below (by (repeat' (first | with_reducible exact Below.refl _ _ | with_reducible assumption | with_reducible refine q_alloc ?_ _ | with_reducible refine q_drew ?_ | with_reducible refine q_drewN _ ?_ | with_reducible refine q_setCell ?_ ?_ _ | (left; simp; done) | (right; simp; done) | (right; dsimp only; omega) | (left; dsimp only; omega))))) (by omega)).mono ?_; rintro e w5 ⟨rfl, hcp, hb⟩; have hqq : Below w.heap.size w w5 := q_step (by (repeat' (first | with_reducible exact Below.refl _ _ | with_reducible assumption | with_reducible refine q_alloc ?_ _ | with_reducible refine q_drew ?_ | with_reducible refine q_drewN _ ?_ | with_reducible refine q_setCell ?_ ?_ _ | (left; simp; done) | (right; simp; done) | (right; dsimp only; omega) | (left; dsimp only; omega)))) hb; have hb2 : Below w2.heap.size w2 w5 := q_step (by (repeat' (first | with_reducible exact Below.refl _ _ | with_reducible assumption | with_reducible refine q_alloc ?_ _ | with_reducible refine q_drew ?_ | with_reducible refine q_drewN _ ?_ | with_reducible refine q_setCell ?_ ?_ _ | (left; simp; done) | (right; simp; done) | (right; dsimp only; omega) | (left; dsimp only; omega)))) hb; have b5 := b1.below hb2; have b6 := b0.below hb2; have HCP := Lib.hid hcp; have cc := b6.cell 0 rfl; clear hcp hb c0 c1 c2 c3 d0 d1 d2 d3 e0 e1 e2 e3; have d0 := b5.cell 0 rfl; have d1 := b5.cell 1 rfl; have d2 := b5.cell 2 rfl; have d3 := b5.cell 3 rfl; have e0 := b5.froz 0 rfl; have e1 := b5.froz 1 rfl; have e2 := b5.froz 2 rfl; have e3 := b5.froz 3 rfl))
  all_goals
    have hne : w.heap.size + 1 ≠ w2.heap.size := by omega
    go_wp2_with fail
    refine body_world (fun W => Below w.heap.size w W ∧ Blk W (w.heap.size + 1) [.bool false, i6 us.length, .slice (some ⟨w2.heap.size, 0, none⟩) us.length us.length, .bool true] ∧ IsI W (.slice (some ⟨w2.heap.size, 0, none⟩) us.length us.length) us) ⟨by (repeat' (first | with_reducible exact Below.refl _ _ | with_reducible assumption | with_reducible refine q_alloc ?_ _ | with_reducible refine q_drew ?_ | with_reducible refine q_drewN _ ?_ | with_reducible refine q_setCell ?_ ?_ _ | (left; simp; done) | (right; simp; done) | (right; dsimp only; omega) | (left; dsimp only; omega))), b5.set4, isI_set (isI_set (isI_set (isI_set HCP.out hne) hne) hne) hne⟩ ?_
    intro W4 ⟨hq4, b7, h6⟩
    clear d0 d1 d2 d3 e0 e1 e2 e3
    have d0 := b7.cell 0 rfl
    have d1 := b7.cell 1 rfl
    have d2 := b7.cell 2 rfl
    have d3 := b7.cell 3 rfl
    exact bodyPost_ret (v := .tuple #[pV false us.length (.slice (some ⟨w2.heap.size, 0, none⟩) us.length us.length) true, .bool true]) (by simp [results, Try.results13, go_sem, d0, d1, d2, d3]) rfl ⟨_, rfl, h6, ⟨_, _, _, rfl⟩, hq4⟩

def pk (P a : Nat) : Int := if P = 1 then 0 else if a = 0 then 1 else if a + 1 = P then 3 else 2
def pt (n P a : Nat) : Int := if P = 1 then n else if a = 0 then n else 0
def pd (us : List Int) (m P a : Nat) : List Int := if P = 1 then us else if a = 0 then [] else if a + 1 = P then [] else (us.drop ((a - 1) * m)).take m
def stS (P a : Nat) : Int := if a = 0 then 0 else if a = P then 2 else 1
def stT (n P a : Nat) : Int := if a = 0 then 0 else if P = 1 then 0 else n
def stD (us : List Int) (m P a : Nat) : List Int := if a = 0 then [] else if P = 1 then us else us.take ((a - 1) * m)
/-- So many pieces. -/
def CntIs (n m P : Nat) : Prop := (n ≤ m ∧ P = 1) ∨ (m < n ∧ P = 2 + (n + m - 1) / m)
theorem cnt_of (n m : Nat) (hm : 1 ≤ m) : ∃ P : Nat, cntP n m = (P : Int) ∧ CntIs n m P := by
  unfold cntP
  by_cases h : m < n
  · refine ⟨2 + (n + m - 1) / m, ?_, Or.inr ⟨h, rfl⟩⟩
    rw [if_pos (by omega)]
    have : ((n : Int) + m - 1) = ((n + m - 1 : Nat) : Int) := by omega
    rw [this]
    omega
  · exact ⟨1, by rw [if_neg (by omega)]; rfl, Or.inl ⟨by omega, rfl⟩⟩
theorem cnt_mid {n m P a : Nat} (hm : 1 ≤ m) (hc : CntIs n m P) (h0 : 0 < a) (ha : a + 1 < P) : (a - 1) * m < n := by
  rcases hc with ⟨_, rfl⟩ | ⟨h, rfl⟩
  · omega
  · have h1 : a ≤ (n + m - 1) / m := by omega
    have h2 := (Nat.le_div_iff_mul_le (by omega : 0 < m)).1 h1
    have h3 : a * m = (a - 1) * m + m := by
      obtain ⟨b, rfl⟩ : ∃ b, a = b + 1 := ⟨a - 1, by omega⟩
      rw [Nat.add_sub_cancel, Nat.succ_mul]
    omega
theorem cnt_last {n m P : Nat} (hm : 1 ≤ m) (hc : CntIs n m P) (h1 : 1 < P) : n ≤ (P - 2) * m := by
  rcases hc with ⟨_, rfl⟩ | ⟨h, rfl⟩
  · omega
  · rw [Nat.add_sub_cancel_left]
    have := Nat.lt_div_mul_add (a := n + m - 1) (by omega : 0 < m)
    omega
theorem cnt_le {n m P : Nat} (hm : 1 ≤ m) (hc : CntIs n m P) : 1 ≤ P ∧ P ≤ n + 2 ∧ (P = 1 ↔ n ≤ m) := by
  rcases hc with ⟨h, rfl⟩ | ⟨h, rfl⟩
  · omega
  · have h1 : (n + m - 1) / m ≤ n := by
      rw [← Nat.lt_succ_iff, Nat.div_lt_iff_lt_mul (by omega)]
      have : n + m - 1 < n.succ * m := by
        rw [Nat.succ_mul]
        have := Nat.le_mul_of_pos_right n (by omega : 0 < m)
        omega
      exact this
    generalize (n + m - 1) / m = X at h1 ⊢
    omega
theorem numsB_sub {us : List Int} (h : numsB us = true) (i j : Nat) : numsB ((us.drop i).take j) = true := by
  unfold numsB at h ⊢
  rw [List.all_eq_true] at h ⊢
  exact fun x hx => h x (List.mem_of_mem_drop (List.mem_of_mem_take hx))
theorem kind_of {us : List Int} {m P a : Nat} (hm : 1 ≤ m) (hm3 : m ≤ 300) (hn : us.length ≤ 400) (hok : numsB us = true) (hc : CntIs us.length m P) (ha : a < P) :
    kindZ (readA (pk P a)) (pt us.length P a) (pd us m P a).length (readB (pk P a)) (numsB (pd us m P a)) = pk P a := by
  have hcl := cnt_le hm hc
  unfold pk pt pd
  by_cases h1 : P = 1
  · rw [if_pos h1, if_pos h1, if_pos h1]
    unfold kindZ readA readB r1B
    rw [hok]
    have : (us.length : Int) ≤ 16382 := by omega
    simp [this]
  rw [if_neg h1, if_neg h1, if_neg h1]
  by_cases h2 : a = 0
  · rw [if_pos h2, if_pos h2, if_pos h2]
    unfold kindZ readA readB r1B r2B
    have hx : 1 ≤ us.length := by omega
    have hy : (us.length : Int) ≤ 65536 := by omega
    simp [numsB, hx, hy]
    omega
  rw [if_neg h2, if_neg h2, if_neg h2]
  by_cases h3 : a + 1 = P
  · rw [if_pos h3, if_pos h3]
    unfold kindZ readA readB r1B r2B r3B r4B
    simp [numsB]
  rw [if_neg h3, if_neg h3]
  have hlt := cnt_mid hm hc (by omega) (by omega : a + 1 < P)
  have hln : 1 ≤ ((us.drop ((a - 1) * m)).take m).length ∧ ((us.drop ((a - 1) * m)).take m).length ≤ 16382 := by
    rw [List.length_take, List.length_drop]; omega
  rw [numsB_sub hok]
  generalize ((us.drop ((a - 1) * m)).take m).length = N at hln
  unfold kindZ readA readB r1B r2B r3B r4B
  have h4 : (1 : Int) ≤ (N : Int) := by omega
  have h5 : (N : Int) ≤ 16382 := by omega
  simp [h4, h5] <;> omega
theorem step_of {us : List Int} {m P a : Nat} (hm : 1 ≤ m) (hc : CntIs us.length m P) (ha : a < P) :
    gotF (pk P a) (stS P a) (stT us.length P a) (stD us m P a) (pt us.length P a) (pd us m P a) = (0, stS P (a + 1), stT us.length P (a + 1), stD us m P (a + 1)) := by
  unfold gotF pk pt pd stS stT stD
  by_cases h1 : P = 1
  · obtain rfl : a = 0 := by omega
    subst h1
    simp [waysF]
  have h1' : ¬ 1 = P := fun e => h1 e.symm
  by_cases h2 : a = 0
  · subst h2
    simp [h1, h1', waysF]
  by_cases h3 : a + 1 = P
  · obtain rfl : P = a + 1 := h3.symm
    have hle := cnt_last hm hc (by omega)
    rw [show a + 1 - 2 = a - 1 by omega] at hle
    have hle2 : us.length ≤ (a + 1 - 1) * m := Nat.le_trans hle (Nat.mul_le_mul_right m (by omega))
    have e1 : us.take ((a - 1) * m) = us := List.take_of_length_le hle
    have e2 : us.take ((a + 1 - 1) * m) = us := List.take_of_length_le hle2
    have hP : ¬ a = a + 1 := by omega
    have ha1 : ¬ a + 1 = 0 := by omega
    have hl : ¬ (us.length : Int) < (us.length : Int) := by omega
    simp only [h1, h2, hP, ha1, e1, e2, if_true, if_false, waysF]
    simp
  · have hP : ¬ a = P := by omega
    have ha1 : ¬ a + 1 = 0 := by omega
    have hlt := cnt_mid hm hc (by omega) (by omega : a + 1 < P)
    have hl : ¬ (us.length : Int) < ((us.take ((a - 1) * m)).length : Int) + (((us.drop ((a - 1) * m)).take m).length : Int) := by
      rw [List.length_take, List.length_take, List.length_drop]; omega
    have e2 : (a + 1 - 1) * m = (a - 1) * m + m := by
      obtain ⟨b, rfl⟩ : ∃ b, a = b + 1 := ⟨a - 1, by omega⟩
      rw [Nat.add_sub_cancel, Nat.add_sub_cancel, Nat.succ_mul]
    have e3 : us.take ((a - 1) * m) ++ (us.drop ((a - 1) * m)).take m = us.take ((a + 1 - 1) * m) := by
      rw [e2, List.take_add]
    simp only [h1, h2, h3, hP, ha1, hl, if_true, if_false, waysF, e3]
    simp
set_option maxRecDepth 100000 in
theorem put_all (da : Option Addr) (cap : Nat) (us : List Int) (m a P : Nat) (w : World) (hv : IsI w (.slice da us.length cap) us) (hl : us.length ≤ 400) (hm : 1 ≤ m) (hm3 : m ≤ 300) (hc : CntIs us.length m P) (ha : a < P) :
    Calls Try.prog 13 #[gV (.slice da us.length cap) m a P] w fun e w' => ∃ va vc, e = .returned (.tuple #[pV (readA (pk P a)) (pt us.length P a) (.slice va (pd us m P a).length vc) (readB (pk P a)), .bool true]) ∧ IsI w' (.slice va (pd us m P a).length vc) (pd us m P a) ∧ (va = none → vc = 0) ∧ Below w.heap.size w w' := by
  have hcl := cnt_le hm hc
  by_cases h1 : P = 1
  · obtain rfl : a = 0 := by omega
    subst h1
    refine (put_whole da cap us m w hv (by omega)).mono ?_
    rintro e w' ⟨v, rfl, hi, ⟨g, n, c, rfl⟩, hb⟩
    obtain ⟨x, y, e1, _⟩ := isI_form hi
    simp only [Value.slice.injEq] at e1
    obtain ⟨rfl, rfl, rfl⟩ := e1
    exact ⟨some g, c, by rfl, hi, fun h => by simp at h, hb⟩
  by_cases h2 : a = 0
  · subst h2
    refine (put_first da cap us m 0 P w hv (by omega) (by omega)).mono ?_
    rintro e w' ⟨rfl, hb⟩
    refine ⟨none, 0, ?_, ?_, fun _ => rfl, hb⟩
    · unfold pk pt pd
      rw [if_neg h1, if_neg h1, if_neg h1]
      rfl
    · unfold pd
      rw [if_neg h1]
      exact Or.inl ⟨_, _, rfl, rfl⟩
  by_cases h3 : a + 1 = P
  · refine (put_last da cap us m a P w hv (by omega) (by omega) (by omega) h3).mono ?_
    rintro e w' ⟨rfl, hb⟩
    refine ⟨none, 0, ?_, ?_, fun _ => rfl, hb⟩
    · unfold pk pt pd
      rw [if_neg h1, if_neg h1, if_neg h1, if_neg h2, if_neg h2, if_neg h2, if_pos h3, if_pos h3]
      rfl
    · unfold pd
      rw [if_neg h1, if_neg h2, if_pos h3]
      exact Or.inl ⟨_, _, rfl, rfl⟩
  · have hlt := cnt_mid hm hc (by omega) (by omega : a + 1 < P)
    refine (put_mid da cap us m a P w hv (by omega) hm (by omega) (by omega) (by omega) (by omega) _ _ rfl (Nat.le_of_lt hlt) rfl).mono ?_
    rintro e w' ⟨v, rfl, hi, hb⟩
    have hne : 0 < ((us.drop ((a - 1) * m)).take m).length := by rw [List.length_take, List.length_drop]; omega
    obtain ⟨x, c, rfl, hf⟩ := isI_form hi
    obtain ⟨b, off, rfl, _⟩ := hf hne
    have e1 : pd us m P a = (us.drop ((a - 1) * m)).take m := by unfold pd; rw [if_neg h1, if_neg h2, if_neg h3]
    have e2 : pk P a = 2 := by unfold pk; rw [if_neg h1, if_neg h2, if_neg h3]
    have e3 : pt us.length P a = 0 := by unfold pt; rw [if_neg h1, if_neg h2]
    rw [e1, e2, e3]
    exact ⟨_, c, rfl, hi, fun h => by simp at h, hb⟩
theorem put_k (da : Option Addr) (cap : Nat) (us : List Int) (k m a P : Nat) (w : World) (hk : us.length = k) (hv : IsI w (.slice da k cap) us) (hl : k ≤ 400) (hm : 1 ≤ m) (hm3 : m ≤ 300) (hc : CntIs k m P) (ha : a < P) :
    Calls Try.prog 13 #[gV (.slice da k cap) m a P] w fun e w' => ∃ va vc pn, e = .returned (.tuple #[pV (readA (pk P a)) (pt k P a) (.slice va pn vc) (readB (pk P a)), .bool true]) ∧ pn = (pd us m P a).length ∧ IsI w' (.slice va pn vc) (pd us m P a) ∧ (va = none → vc = 0) ∧ Below w.heap.size w w' := by
  subst hk
  exact (put_all da cap us m a P w hv hl hm hm3 hc ha).mono fun e w' ⟨va, vc, he, hi, hn, hb⟩ => ⟨va, vc, _, he, rfl, hi, hn, hb⟩
theorem data_k (s tt : Int) (ka : Option Addr) (kn kc : Nat) (us : List Int) (w : World) (hkn : kn = us.length) (hk : IsI w (.slice ka kn kc) us) (h1 : us.length ≤ 1000000) :
    Calls Try.prog 21 #[tV s tt (.slice ka kn kc)] w fun e w' => ∃ xa xc, e = .returned (.tuple #[.slice xa kn xc, i6 s]) ∧ IsI w' (.slice xa kn xc) us ∧ Below w.heap.size w w' := by
  subst hkn
  exact data_any s tt _ us w hk h1
theorem pd_le (us : List Int) (m P a : Nat) : (pd us m P a).length ≤ us.length := by
  unfold pd
  split
  · exact Nat.le_refl _
  split
  · simp
  split
  · simp
  · rw [List.length_take, List.length_drop]; omega
theorem stD_le (us : List Int) (m P a : Nat) : (stD us m P a).length ≤ us.length := by
  unfold stD
  split
  · simp
  split
  · exact Nat.le_refl _
  · rw [List.length_take]; omega
theorem pk_range (P a : Nat) : 0 ≤ pk P a ∧ pk P a ≤ 3 := by
  unfold pk; split
  · omega
  split
  · omega
  split <;> omega
theorem code_k (us : List Int) (k m P a : Nat) (va : Option Addr) (pn vc : Nat) (w : World) (hk : us.length = k) (hpn : pn = (pd us m P a).length) (hm : 1 ≤ m) (hm3 : m ≤ 300) (hn : k ≤ 400) (hok : numsB us = true) (hc : CntIs k m P) (ha : a < P) (hv : IsI w (.slice va pn vc) (pd us m P a)) (hno : va = none → vc = 0) :
    Calls Try.prog 23 #[pV (readA (pk P a)) (pt k P a) (.slice va pn vc) (readB (pk P a))] w fun e w' => ∃ v, e = .returned v ∧ IsI w' v (pk P a :: pt k P a :: pd us m P a) ∧ Below w.heap.size w w' := by
  subst hk hpn
  have h1 := pd_le us m P a
  refine (code_any _ _ va vc _ _ w hv hno (by omega)).mono ?_
  rintro e w' ⟨v, rfl, hi, hb⟩
  rw [kind_of hm hm3 hn hok hc ha] at hi
  unfold codeL at hi
  rw [if_neg (by have := (pk_range P a).1; omega)] at hi
  exact ⟨v, rfl, hi, hb⟩
theorem read_k (us : List Int) (k m P a : Nat) (v : Value) (w : World) (hk : us.length = k) (hm : 1 ≤ m) (hm3 : m ≤ 300) (hn : k ≤ 400) (hok : numsB us = true) (hc : CntIs k m P) (ha : a < P) (hv : IsI w v (pk P a :: pt k P a :: pd us m P a)) :
    Calls Try.prog 25 #[v] w fun e w' => ∃ xa pn xc, e = .returned (.tuple #[pV (readA (pk P a)) (pt k P a) (.slice xa pn xc) (readB (pk P a)), i6 0]) ∧ IsI w' (.slice xa pn xc) (pd us m P a) ∧ Below w.heap.size w w' := by
  subst hk
  have h1 := pd_le us m P a
  have h2 := pk_range P a
  refine (read_ok v _ _ _ w hv (by omega) h2.1 h2.2).mono ?_
  rintro e w' ⟨hor, hb⟩
  rcases hor with ⟨_, pv, rfl, hi, g, rfl⟩ | ⟨hne, _⟩
  · exact ⟨_, _, _, rfl, hi, hb⟩
  · exact absurd (kind_of hm hm3 hn hok hc ha) hne
theorem got_k (us : List Int) (k m P a : Nat) (ka : Option Addr) (kn kc : Nat) (pv : Value) (w : World) (hk : us.length = k) (hkn : kn = (stD us m P a).length) (hm : 1 ≤ m) (hm3 : m ≤ 300) (hn : k ≤ 400) (hok : numsB us = true) (hc : CntIs k m P) (ha : a < P) (hik : IsI w (.slice ka kn kc) (stD us m P a)) (hip : IsI w pv (pd us m P a)) :
    Calls Try.prog 19 #[tV (stS P a) (stT k P a) (.slice ka kn kc), pV (readA (pk P a)) (pt k P a) pv (readB (pk P a))] w fun e w' => ∃ xa xn xc, e = .returned (.tuple #[tV (stS P (a + 1)) (stT k P (a + 1)) (.slice xa xn xc), i6 0]) ∧ xn = (stD us m P (a + 1)).length ∧ IsI w' (.slice xa xn xc) (stD us m P (a + 1)) ∧ Hid (∀ r, r < w.heap.size → Apart r (.slice ka kn kc) (stD us m P a) → Apart r (.slice xa xn xc) (stD us m P (a + 1))) ∧ Below w.heap.size w w' := by
  subst hk hkn
  have h1 := pd_le us m P a
  have h2 := stD_le us m P a
  refine (got_any (stS P a) (stT us.length P a) _ _ (readA (pk P a)) (pt us.length P a) pv (readB (pk P a)) _ w hik hip (by omega) (by omega)).mono ?_
  rw [kind_of hm hm3 hn hok hc ha, step_of hm hc ha]
  rintro e w' ⟨kv', rfl, hi, hap, hb⟩
  obtain ⟨xa, xc, rfl, _⟩ := isI_form hi
  exact ⟨xa, _, xc, rfl, rfl, hi, Lib.hid hap, hb⟩
theorem stS_lt {P a : Nat} (h : a < P) : (stS P a == 2) = false := by
  unfold stS
  by_cases h0 : a = 0
  · rw [if_pos h0]; rfl
  · rw [if_neg h0, if_neg (by omega)]; rfl
theorem stS_end {P : Nat} (h : 1 ≤ P) : stS P P = 2 := by
  unfold stS
  rw [if_neg (by omega), if_pos rfl]
theorem stD_end {us : List Int} {m P : Nat} (hm : 1 ≤ m) (hc : CntIs us.length m P) : stD us m P P = us := by
  have h1 := (cnt_le hm hc).1
  unfold stD
  rw [if_neg (by omega)]
  by_cases h : P = 1
  · rw [if_pos h]
  · rw [if_neg h]
    have := cnt_last hm hc (by omega)
    exact List.take_of_length_le (Nat.le_trans this (Nat.mul_le_mul_right m (by omega)))
end Go.Proofs.Ytlaejolgjchfcaa
