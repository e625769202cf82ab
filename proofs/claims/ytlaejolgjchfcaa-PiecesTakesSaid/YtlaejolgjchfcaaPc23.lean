/- Layer 42: the document's take; Refused. -/
import Derived.Test.YtlaejolgjchfcaaPc22
namespace Go.Proofs.Ytlaejolgjchfcaa
open Go Go.RowKit Go.Maps
set_option linter.unusedSimpArgs false
set_option linter.unusedVariables false
def refF (Z s tt : Int) (us : List Int) (t : Int) (ds : List Int) : Int × Int × Int × List Int :=
  if Z < 0 then (2, s, tt, us) else if 1 < s then (9, s, tt, us) else if (1 < Z ∧ s ≠ 1) ∨ (¬ 1 < Z ∧ s = 1) then (8, s, tt, us)
  else if Z = 0 then (0, 2, 0, ds) else if Z = 1 then (0, 1, t, [])
  else if Z = 2 then (if tt < (us.length : Int) + ds.length then (4, s, tt, us) else (0, 1, tt, us ++ ds))
  else (if (us.length : Int) < tt then (3, s, tt, us) else (0, 2, 0, us))
def RefIs (kv : Value) (us : List Int) (pv : Value) (ds : List Int) (F : Int × Int × Int × List Int) (w : World) (e : Ending) (w' : World) : Prop :=
  ∃ ka' n' kc', e = .returned (.tuple #[tV F.2.1 F.2.2.1 (.slice ka' n' kc'), i6 F.1]) ∧ n' = F.2.2.2.length ∧ IsI w' (.slice ka' n' kc') F.2.2.2 ∧ (ka' = none → kc' = 0) ∧ (∀ r, r < w.heap.size → Apart r kv us → Apart r pv ds → Apart r (.slice ka' n' kc') F.2.2.2) ∧ Below w.heap.size w w'
def RefuIs (s tt : Int) (ka : Option Addr) (kn kc : Nat) (w : World) (e : Ending) (w' : World) : Prop := e = .returned (if s = 2 then tV s tt (.slice ka kn kc) else tV 3 0 (.slice none 0 0)) ∧ Below w.heap.size w w'
set_option maxRecDepth 100000 in
set_option maxHeartbeats 2000000 in
theorem refused_any (s tt : Int) (ka : Option Addr) (kn kc : Nat) (w : World) :
    Calls Try.prog 18 #[tV s tt (.slice ka kn kc)] w fun e w' => RefuIs s tt ka kn kc w e w' := by
  unfold RefuIs
  by_cases hs : s = 2
  · rw [if_pos hs]
    subst hs
    go_enter Try.func18, Try.ntmps18
    go_upto_region 1 with fail
    refine code_world (fun W => Below w.heap.size w W ∧ Blk W w.heap.size [i6 2, i6 tt, .slice ka kn kc] ∧ Blk W (w.heap.size + 1) [i6 0, i6 0, .slice none 0 0]) ⟨by (repeat' (first | with_reducible exact Below.refl _ _ | with_reducible assumption | with_reducible refine q_alloc ?_ _ | with_reducible refine q_drew ?_ | with_reducible refine q_drewN _ ?_ | with_reducible refine q_setCell ?_ ?_ _ | (left; simp; done) | (right; simp; done) | (right; dsimp only; omega) | (left; dsimp only; omega))), (Blk.new rfl).alloc _, blk_new1 rfl⟩ ?_
    intro W1 ⟨hq1, b1, b3⟩
    have d0 := b1.cell 0 rfl
    have d1 := b1.cell 1 rfl
    have d2 := b1.cell 2 rfl
    have e0 := b3.cell 0 rfl
    have e1 := b3.cell 1 rfl
    have e2 := b3.cell 2 rfl
    have f0 := b3.froz 0 rfl
    have f1 := b3.froz 1 rfl
    have f2 := b3.froz 2 rfl
    have z3 := b3.lt
    go_wp2_with fail
    refine body_world (fun W => Below w.heap.size w W ∧ Blk W (w.heap.size + 1) [i6 2, i6 tt, .slice ka kn kc]) ⟨by (repeat' (first | with_reducible exact Below.refl _ _ | with_reducible assumption | with_reducible refine q_alloc ?_ _ | with_reducible refine q_drew ?_ | with_reducible refine q_drewN _ ?_ | with_reducible refine q_setCell ?_ ?_ _ | (left; simp; done) | (right; simp; done) | (right; dsimp only; omega) | (left; dsimp only; omega))), ((b3.set 0 _ (by simp) rfl).set 1 _ (by simp) rfl).set 2 _ (by simp) rfl⟩ ?_
    intro W9 ⟨hq9, b9⟩
    clear e0 e1 e2 f0 f1 f2
    have e0 := b9.cell 0 rfl
    have e1 := b9.cell 1 rfl
    have e2 := b9.cell 2 rfl
    exact bodyPost_ret (v := tV 2 tt (.slice ka kn kc)) (by simp [results, Try.results18, go_sem, e0, e1, e2]) rfl ⟨rfl, hq9⟩
  · rw [if_neg hs]
    have hs' : (s == 2) = false := by simpa using hs
    go_enter Try.func18, Try.ntmps18
    go_upto_region 1 with fail
    refine code_world (fun W => Below w.heap.size w W ∧ Blk W w.heap.size [i6 s, i6 tt, .slice ka kn kc] ∧ Blk W (w.heap.size + 1) [i6 0, i6 0, .slice none 0 0]) ⟨by (repeat' (first | with_reducible exact Below.refl _ _ | with_reducible assumption | with_reducible refine q_alloc ?_ _ | with_reducible refine q_drew ?_ | with_reducible refine q_drewN _ ?_ | with_reducible refine q_setCell ?_ ?_ _ | (left; simp; done) | (right; simp; done) | (right; dsimp only; omega) | (left; dsimp only; omega))), (Blk.new rfl).alloc _, blk_new1 rfl⟩ ?_
    intro W1 ⟨hq1, b1, b3⟩
    have d0 := b1.cell 0 rfl
    have d1 := b1.cell 1 rfl
    have d2 := b1.cell 2 rfl
    have e0 := b3.cell 0 rfl
    have e1 := b3.cell 1 rfl
    have e2 := b3.cell 2 rfl
    have f0 := b3.froz 0 rfl
    have f1 := b3.froz 1 rfl
    have f2 := b3.froz 2 rfl
    have z3 := b3.lt
    go_wp2_with fail
    refine body_world (fun W => Below w.heap.size w W ∧ Blk W (w.heap.size + 1) [i6 3, i6 0, .slice none 0 0]) ⟨by (repeat' (first | with_reducible exact Below.refl _ _ | with_reducible assumption | with_reducible refine q_alloc ?_ _ | with_reducible refine q_drew ?_ | with_reducible refine q_drewN _ ?_ | with_reducible refine q_setCell ?_ ?_ _ | (left; simp; done) | (right; simp; done) | (right; dsimp only; omega) | (left; dsimp only; omega))), ((b3.set 0 _ (by simp) rfl).set 1 _ (by simp) rfl).set 2 _ (by simp) rfl⟩ ?_
    intro W9 ⟨hq9, b9⟩
    clear e0 e1 e2 f0 f1 f2
    have e0 := b9.cell 0 rfl
    have e1 := b9.cell 1 rfl
    have e2 := b9.cell 2 rfl
    exact bodyPost_ret (v := tV 3 0 (.slice none 0 0)) (by simp [results, Try.results18, go_sem, e0, e1, e2]) rfl ⟨rfl, hq9⟩
set_option maxRecDepth 100000 in
set_option maxHeartbeats 4000000 in
theorem rgot_form (s tt : Int) (ka : Option Addr) (kn kc : Nat) (us : List Int) (a : Bool) (t : Int) (pa : Option Addr) (pn pc : Nat) (l : Bool) (ds : List Int) (w : World) (hk : IsI w (.slice ka kn kc) us) (hkn : us.length = kn) (hkno : ka = none → kc = 0) (hp : IsI w (.slice pa pn pc) ds) (hpn : ds.length = pn) (hpno : pa = none → pc = 0) (h1 : kn ≤ 100000) (h2 : pn ≤ 100000) (Z : Int) (hZ : kindZ a t ds.length l (numsB ds) = Z) (h0 : Z < 0) :
    Calls Try.prog 20 #[tV s tt (.slice ka kn kc), pV a t (.slice pa pn pc) l] w (RefIs (.slice ka kn kc) us (.slice pa pn pc) ds (2, s, tt, us) w) := by
  have HK := Lib.hid hk
  have HKN := Lib.hid hkn
  have HKO := Lib.hid hkno
  have HP := Lib.hid hp
  have HPN := Lib.hid hpn
  have HPO := Lib.hid hpno
  have HZ := Lib.hid hZ
  clear hk hkn hkno hp hpn hpno hZ
  obtain ⟨i0, hi, hz0, hz1, hz2⟩ := info_parts info_i64
  go_enter Try.func20, Try.ntmps20
  go_wp2_with fail
  refine calls_world (fun W => Below w.heap.size w W ∧ Blk W w.heap.size [i6 s, i6 tt, .slice ka kn kc] ∧ Blk W (w.heap.size + 1) [.bool a, i6 t, .slice pa pn pc, .bool l] ∧ Blk W (w.heap.size + 1 + 1) [i6 0, i6 0, .slice none 0 0]) ⟨by (repeat' (first | with_reducible exact Below.refl _ _ | with_reducible assumption | with_reducible refine q_alloc ?_ _ | with_reducible refine q_drew ?_ | with_reducible refine q_drewN _ ?_ | with_reducible refine q_setCell ?_ ?_ _ | (left; simp; done) | (right; simp; done) | (right; dsimp only; omega) | (left; dsimp only; omega))), ((Blk.new rfl).alloc _).alloc _, (blk_new1 rfl).alloc _, blk_new2 rfl⟩ ?_
  intro W1 ⟨hq1, b1, b2, b3⟩
  refine (rkind_any a t (.slice pa pn pc) l ds _ (HP.out.below hq1) (by rw [HPN.out]; omega)).mono ?_
  rintro e w2 ⟨rfl, hb⟩
  rw [kind_meet, HZ.out]
  have hq2 := q_step hq1 hb
  replace b1 := b1.below hb
  replace b2 := b2.below hb
  replace b3 := b3.below hb
  clear hb hq1
  have d0 := b1.cell 0 rfl
  have d1 := b1.cell 1 rfl
  have d2 := b1.cell 2 rfl
  have p0 := b2.cell 0 rfl
  have p1 := b2.cell 1 rfl
  have p2 := b2.cell 2 rfl
  have p3 := b2.cell 3 rfl
  have e0 := b3.cell 0 rfl
  have e1 := b3.cell 1 rfl
  have e2 := b3.cell 2 rfl
  have f0 := b3.froz 0 rfl
  have f1 := b3.froz 1 rfl
  have f2 := b3.froz 2 rfl
  have z3 := b3.lt
  go_wp2_with fail
  refine body_world (fun W => Below w.heap.size w W ∧ Blk W (w.heap.size + 1 + 1) [i6 s, i6 tt, .slice ka kn kc]) ⟨by (repeat' (first | with_reducible exact Below.refl _ _ | with_reducible assumption | with_reducible refine q_alloc ?_ _ | with_reducible refine q_drew ?_ | with_reducible refine q_drewN _ ?_ | with_reducible refine q_setCell ?_ ?_ _ | (left; simp; done) | (right; simp; done) | (right; dsimp only; omega) | (left; dsimp only; omega))), ((b3.set 0 _ (by simp) rfl).set 1 _ (by simp) rfl).set 2 _ (by simp) rfl⟩ ?_
  intro W9 ⟨hq9, b9⟩
  clear e0 e1 e2 f0 f1 f2
  have e0 := b9.cell 0 rfl
  have e1 := b9.cell 1 rfl
  have e2 := b9.cell 2 rfl
  exact bodyPost_ret (v := .tuple #[tV s tt (.slice ka kn kc), i6 2]) (by simp [results, Try.results20, go_sem, e0, e1, e2]) rfl ⟨_, _, _, rfl, HKN.out.symm, HK.out.below hq9, HKO.out, fun _ _ h _ => h, hq9⟩
set_option maxRecDepth 100000 in
set_option maxHeartbeats 4000000 in
theorem rgot_state (s tt : Int) (ka : Option Addr) (kn kc : Nat) (us : List Int) (a : Bool) (t : Int) (pa : Option Addr) (pn pc : Nat) (l : Bool) (ds : List Int) (w : World) (hk : IsI w (.slice ka kn kc) us) (hkn : us.length = kn) (hkno : ka = none → kc = 0) (hp : IsI w (.slice pa pn pc) ds) (hpn : ds.length = pn) (hpno : pa = none → pc = 0) (h1 : kn ≤ 100000) (h2 : pn ≤ 100000) (Z : Int) (hZ : kindZ a t ds.length l (numsB ds) = Z) (h0 : ¬ Z < 0) (hs : 1 < s) :
    Calls Try.prog 20 #[tV s tt (.slice ka kn kc), pV a t (.slice pa pn pc) l] w (RefIs (.slice ka kn kc) us (.slice pa pn pc) ds (9, s, tt, us) w) := by
  have HK := Lib.hid hk
  have HKN := Lib.hid hkn
  have HKO := Lib.hid hkno
  have HP := Lib.hid hp
  have HPN := Lib.hid hpn
  have HPO := Lib.hid hpno
  have HZ := Lib.hid hZ
  clear hk hkn hkno hp hpn hpno hZ
  obtain ⟨i0, hi, hz0, hz1, hz2⟩ := info_parts info_i64
  go_enter Try.func20, Try.ntmps20
  go_wp2_with fail
  refine calls_world (fun W => Below w.heap.size w W ∧ Blk W w.heap.size [i6 s, i6 tt, .slice ka kn kc] ∧ Blk W (w.heap.size + 1) [.bool a, i6 t, .slice pa pn pc, .bool l] ∧ Blk W (w.heap.size + 1 + 1) [i6 0, i6 0, .slice none 0 0]) ⟨by (repeat' (first | with_reducible exact Below.refl _ _ | with_reducible assumption | with_reducible refine q_alloc ?_ _ | with_reducible refine q_drew ?_ | with_reducible refine q_drewN _ ?_ | with_reducible refine q_setCell ?_ ?_ _ | (left; simp; done) | (right; simp; done) | (right; dsimp only; omega) | (left; dsimp only; omega))), ((Blk.new rfl).alloc _).alloc _, (blk_new1 rfl).alloc _, blk_new2 rfl⟩ ?_
  intro W1 ⟨hq1, b1, b2, b3⟩
  refine (rkind_any a t (.slice pa pn pc) l ds _ (HP.out.below hq1) (by rw [HPN.out]; omega)).mono ?_
  rintro e w2 ⟨rfl, hb⟩
  rw [kind_meet, HZ.out]
  have hq2 := q_step hq1 hb
  replace b1 := b1.below hb
  replace b2 := b2.below hb
  replace b3 := b3.below hb
  clear hb hq1
  have d0 := b1.cell 0 rfl
  have d1 := b1.cell 1 rfl
  have d2 := b1.cell 2 rfl
  have p0 := b2.cell 0 rfl
  have p1 := b2.cell 1 rfl
  have p2 := b2.cell 2 rfl
  have p3 := b2.cell 3 rfl
  have e0 := b3.cell 0 rfl
  have e1 := b3.cell 1 rfl
  have e2 := b3.cell 2 rfl
  have f0 := b3.froz 0 rfl
  have f1 := b3.froz 1 rfl
  have f2 := b3.froz 2 rfl
  have z3 := b3.lt
  go_wp2_with fail
  refine body_world (fun W => Below w.heap.size w W ∧ Blk W (w.heap.size + 1 + 1) [i6 s, i6 tt, .slice ka kn kc]) ⟨by (repeat' (first | with_reducible exact Below.refl _ _ | with_reducible assumption | with_reducible refine q_alloc ?_ _ | with_reducible refine q_drew ?_ | with_reducible refine q_drewN _ ?_ | with_reducible refine q_setCell ?_ ?_ _ | (left; simp; done) | (right; simp; done) | (right; dsimp only; omega) | (left; dsimp only; omega))), ((b3.set 0 _ (by simp) rfl).set 1 _ (by simp) rfl).set 2 _ (by simp) rfl⟩ ?_
  intro W9 ⟨hq9, b9⟩
  clear e0 e1 e2 f0 f1 f2
  have e0 := b9.cell 0 rfl
  have e1 := b9.cell 1 rfl
  have e2 := b9.cell 2 rfl
  exact bodyPost_ret (v := .tuple #[tV s tt (.slice ka kn kc), i6 9]) (by simp [results, Try.results20, go_sem, e0, e1, e2]) rfl ⟨_, _, _, rfl, HKN.out.symm, HK.out.below hq9, HKO.out, fun _ _ h _ => h, hq9⟩
set_option maxRecDepth 100000 in
set_option maxHeartbeats 4000000 in
theorem rgot_order1 (s tt : Int) (ka : Option Addr) (kn kc : Nat) (us : List Int) (a : Bool) (t : Int) (pa : Option Addr) (pn pc : Nat) (l : Bool) (ds : List Int) (w : World) (hk : IsI w (.slice ka kn kc) us) (hkn : us.length = kn) (hkno : ka = none → kc = 0) (hp : IsI w (.slice pa pn pc) ds) (hpn : ds.length = pn) (hpno : pa = none → pc = 0) (h1 : kn ≤ 100000) (h2 : pn ≤ 100000) (Z : Int) (hZ : kindZ a t ds.length l (numsB ds) = Z) (h0 : 1 < Z) (hs1 : ¬ 1 < s) (hs : s ≠ 1) :
    Calls Try.prog 20 #[tV s tt (.slice ka kn kc), pV a t (.slice pa pn pc) l] w (RefIs (.slice ka kn kc) us (.slice pa pn pc) ds (8, s, tt, us) w) := by
  have hn0 : ¬ Z < 0 := by omega
  have hsb : (s == 1) = false := by simpa using hs
  clear hs
  have HK := Lib.hid hk
  have HKN := Lib.hid hkn
  have HKO := Lib.hid hkno
  have HP := Lib.hid hp
  have HPN := Lib.hid hpn
  have HPO := Lib.hid hpno
  have HZ := Lib.hid hZ
  clear hk hkn hkno hp hpn hpno hZ
  obtain ⟨i0, hi, hz0, hz1, hz2⟩ := info_parts info_i64
  go_enter Try.func20, Try.ntmps20
  go_wp2_with fail
  refine calls_world (fun W => Below w.heap.size w W ∧ Blk W w.heap.size [i6 s, i6 tt, .slice ka kn kc] ∧ Blk W (w.heap.size + 1) [.bool a, i6 t, .slice pa pn pc, .bool l] ∧ Blk W (w.heap.size + 1 + 1) [i6 0, i6 0, .slice none 0 0]) ⟨by (repeat' (first | with_reducible exact Below.refl _ _ | with_reducible assumption | with_reducible refine q_alloc ?_ _ | with_reducible refine q_drew ?_ | with_reducible refine q_drewN _ ?_ | with_reducible refine q_setCell ?_ ?_ _ | (left; simp; done) | (right; simp; done) | (right; dsimp only; omega) | (left; dsimp only; omega))), ((Blk.new rfl).alloc _).alloc _, (blk_new1 rfl).alloc _, blk_new2 rfl⟩ ?_
  intro W1 ⟨hq1, b1, b2, b3⟩
  refine (rkind_any a t (.slice pa pn pc) l ds _ (HP.out.below hq1) (by rw [HPN.out]; omega)).mono ?_
  rintro e w2 ⟨rfl, hb⟩
  rw [kind_meet, HZ.out]
  have hq2 := q_step hq1 hb
  replace b1 := b1.below hb
  replace b2 := b2.below hb
  replace b3 := b3.below hb
  clear hb hq1
  have d0 := b1.cell 0 rfl
  have d1 := b1.cell 1 rfl
  have d2 := b1.cell 2 rfl
  have p0 := b2.cell 0 rfl
  have p1 := b2.cell 1 rfl
  have p2 := b2.cell 2 rfl
  have p3 := b2.cell 3 rfl
  have e0 := b3.cell 0 rfl
  have e1 := b3.cell 1 rfl
  have e2 := b3.cell 2 rfl
  have f0 := b3.froz 0 rfl
  have f1 := b3.froz 1 rfl
  have f2 := b3.froz 2 rfl
  have z3 := b3.lt
  go_wp2_with fail
  refine body_world (fun W => Below w.heap.size w W ∧ Blk W (w.heap.size + 1 + 1) [i6 s, i6 tt, .slice ka kn kc]) ⟨by (repeat' (first | with_reducible exact Below.refl _ _ | with_reducible assumption | with_reducible refine q_alloc ?_ _ | with_reducible refine q_drew ?_ | with_reducible refine q_drewN _ ?_ | with_reducible refine q_setCell ?_ ?_ _ | (left; simp; done) | (right; simp; done) | (right; dsimp only; omega) | (left; dsimp only; omega))), ((b3.set 0 _ (by simp) rfl).set 1 _ (by simp) rfl).set 2 _ (by simp) rfl⟩ ?_
  intro W9 ⟨hq9, b9⟩
  clear e0 e1 e2 f0 f1 f2
  have e0 := b9.cell 0 rfl
  have e1 := b9.cell 1 rfl
  have e2 := b9.cell 2 rfl
  exact bodyPost_ret (v := .tuple #[tV s tt (.slice ka kn kc), i6 8]) (by simp [results, Try.results20, go_sem, e0, e1, e2]) rfl ⟨_, _, _, rfl, HKN.out.symm, HK.out.below hq9, HKO.out, fun _ _ h _ => h, hq9⟩
set_option maxRecDepth 100000 in
set_option maxHeartbeats 4000000 in
theorem rgot_order2 (s tt : Int) (ka : Option Addr) (kn kc : Nat) (us : List Int) (a : Bool) (t : Int) (pa : Option Addr) (pn pc : Nat) (l : Bool) (ds : List Int) (w : World) (hk : IsI w (.slice ka kn kc) us) (hkn : us.length = kn) (hkno : ka = none → kc = 0) (hp : IsI w (.slice pa pn pc) ds) (hpn : ds.length = pn) (hpno : pa = none → pc = 0) (h1 : kn ≤ 100000) (h2 : pn ≤ 100000) (Z : Int) (hZ : kindZ a t ds.length l (numsB ds) = Z) (h0 : ¬ Z < 0) (hZ1 : ¬ 1 < Z) (hs : s = 1) :
    Calls Try.prog 20 #[tV s tt (.slice ka kn kc), pV a t (.slice pa pn pc) l] w (RefIs (.slice ka kn kc) us (.slice pa pn pc) ds (8, 1, tt, us) w) := by
  subst hs
  have hz1 : decide (1 < Z) = false := decide_eq_false hZ1
  have HK := Lib.hid hk
  have HKN := Lib.hid hkn
  have HKO := Lib.hid hkno
  have HP := Lib.hid hp
  have HPN := Lib.hid hpn
  have HPO := Lib.hid hpno
  have HZ := Lib.hid hZ
  clear hk hkn hkno hp hpn hpno hZ
  obtain ⟨i0, hi, hz0, hz1, hz2⟩ := info_parts info_i64
  go_enter Try.func20, Try.ntmps20
  go_wp2_with fail
  refine calls_world (fun W => Below w.heap.size w W ∧ Blk W w.heap.size [i6 1, i6 tt, .slice ka kn kc] ∧ Blk W (w.heap.size + 1) [.bool a, i6 t, .slice pa pn pc, .bool l] ∧ Blk W (w.heap.size + 1 + 1) [i6 0, i6 0, .slice none 0 0]) ⟨by (repeat' (first | with_reducible exact Below.refl _ _ | with_reducible assumption | with_reducible refine q_alloc ?_ _ | with_reducible refine q_drew ?_ | with_reducible refine q_drewN _ ?_ | with_reducible refine q_setCell ?_ ?_ _ | (left; simp; done) | (right; simp; done) | (right; dsimp only; omega) | (left; dsimp only; omega))), ((Blk.new rfl).alloc _).alloc _, (blk_new1 rfl).alloc _, blk_new2 rfl⟩ ?_
  intro W1 ⟨hq1, b1, b2, b3⟩
  refine (rkind_any a t (.slice pa pn pc) l ds _ (HP.out.below hq1) (by rw [HPN.out]; omega)).mono ?_
  rintro e w2 ⟨rfl, hb⟩
  rw [kind_meet, HZ.out]
  have hq2 := q_step hq1 hb
  replace b1 := b1.below hb
  replace b2 := b2.below hb
  replace b3 := b3.below hb
  clear hb hq1
  have d0 := b1.cell 0 rfl
  have d1 := b1.cell 1 rfl
  have d2 := b1.cell 2 rfl
  have p0 := b2.cell 0 rfl
  have p1 := b2.cell 1 rfl
  have p2 := b2.cell 2 rfl
  have p3 := b2.cell 3 rfl
  have e0 := b3.cell 0 rfl
  have e1 := b3.cell 1 rfl
  have e2 := b3.cell 2 rfl
  have f0 := b3.froz 0 rfl
  have f1 := b3.froz 1 rfl
  have f2 := b3.froz 2 rfl
  have z3 := b3.lt
  go_wp2_with fail
  all_goals
    refine body_world (fun W => Below w.heap.size w W ∧ Blk W (w.heap.size + 1 + 1) [i6 1, i6 tt, .slice ka kn kc]) ⟨by (repeat' (first | with_reducible exact Below.refl _ _ | with_reducible assumption | with_reducible refine q_alloc ?_ _ | with_reducible refine q_drew ?_ | with_reducible refine q_drewN _ ?_ | with_reducible refine q_setCell ?_ ?_ _ | (left; simp; done) | (right; simp; done) | (right; dsimp only; omega) | (left; dsimp only; omega))), ((b3.set 0 _ (by simp) rfl).set 1 _ (by simp) rfl).set 2 _ (by simp) rfl⟩ ?_
    intro W9 ⟨hq9, b9⟩
    clear e0 e1 e2 f0 f1 f2
    have e0 := b9.cell 0 rfl
    have e1 := b9.cell 1 rfl
    have e2 := b9.cell 2 rfl
    exact bodyPost_ret (v := .tuple #[tV 1 tt (.slice ka kn kc), i6 8]) (by simp [results, Try.results20, go_sem, e0, e1, e2]) rfl ⟨_, _, _, rfl, HKN.out.symm, HK.out.below hq9, HKO.out, fun _ _ h _ => h, hq9⟩
set_option maxRecDepth 100000 in
set_option maxHeartbeats 4000000 in
theorem rgot_whole (s tt : Int) (ka : Option Addr) (kn kc : Nat) (us : List Int) (a : Bool) (t : Int) (pa : Option Addr) (pn pc : Nat) (l : Bool) (ds : List Int) (w : World) (hk : IsI w (.slice ka kn kc) us) (hkn : us.length = kn) (hkno : ka = none → kc = 0) (hp : IsI w (.slice pa pn pc) ds) (hpn : ds.length = pn) (hpno : pa = none → pc = 0) (h1 : kn ≤ 100000) (h2 : pn ≤ 100000) (hZ : kindZ a t ds.length l (numsB ds) = 0) (hs1 : ¬ 1 < s) (hs : s ≠ 1) :
    Calls Try.prog 20 #[tV s tt (.slice ka kn kc), pV a t (.slice pa pn pc) l] w (RefIs (.slice ka kn kc) us (.slice pa pn pc) ds (0, 2, 0, ds) w) := by
  have hsb : (s == 1) = false := by simpa using hs
  clear hs
  have HK := Lib.hid hk
  have HKN := Lib.hid hkn
  have HKO := Lib.hid hkno
  have HP := Lib.hid hp
  have HPN := Lib.hid hpn
  have HPO := Lib.hid hpno
  have HZ := Lib.hid hZ
  clear hk hkn hkno hp hpn hpno hZ
  obtain ⟨i0, hi, hz0, hz1, hz2⟩ := info_parts info_i64
  go_enter Try.func20, Try.ntmps20
  go_wp2_with fail
  refine calls_world (fun W => Below w.heap.size w W ∧ Blk W w.heap.size [i6 s, i6 tt, .slice ka kn kc] ∧ Blk W (w.heap.size + 1) [.bool a, i6 t, .slice pa pn pc, .bool l] ∧ Blk W (w.heap.size + 1 + 1) [i6 0, i6 0, .slice none 0 0]) ⟨by (repeat' (first | with_reducible exact Below.refl _ _ | with_reducible assumption | with_reducible refine q_alloc ?_ _ | with_reducible refine q_drew ?_ | with_reducible refine q_drewN _ ?_ | with_reducible refine q_setCell ?_ ?_ _ | (left; simp; done) | (right; simp; done) | (right; dsimp only; omega) | (left; dsimp only; omega))), ((Blk.new rfl).alloc _).alloc _, (blk_new1 rfl).alloc _, blk_new2 rfl⟩ ?_
  intro W1 ⟨hq1, b1, b2, b3⟩
  refine (rkind_any a t (.slice pa pn pc) l ds _ (HP.out.below hq1) (by rw [HPN.out]; omega)).mono ?_
  rintro e w2 ⟨rfl, hb⟩
  rw [kind_meet, HZ.out]
  have hq2 := q_step hq1 hb
  replace b1 := b1.below hb
  replace b2 := b2.below hb
  replace b3 := b3.below hb
  clear hb hq1
  have d0 := b1.cell 0 rfl
  have d1 := b1.cell 1 rfl
  have d2 := b1.cell 2 rfl
  have p0 := b2.cell 0 rfl
  have p1 := b2.cell 1 rfl
  have p2 := b2.cell 2 rfl
  have p3 := b2.cell 3 rfl
  have e0 := b3.cell 0 rfl
  have e1 := b3.cell 1 rfl
  have e2 := b3.cell 2 rfl
  have f0 := b3.froz 0 rfl
  have f1 := b3.froz 1 rfl
  have f2 := b3.froz 2 rfl
  have z3 := b3.lt
  go_wp2_with fail
  refine body_world (fun W => Below w.heap.size w W ∧ Blk W (w.heap.size + 1 + 1) [i6 2, i6 0, .slice pa pn pc]) ⟨by (repeat' (first | with_reducible exact Below.refl _ _ | with_reducible assumption | with_reducible refine q_alloc ?_ _ | with_reducible refine q_drew ?_ | with_reducible refine q_drewN _ ?_ | with_reducible refine q_setCell ?_ ?_ _ | (left; simp; done) | (right; simp; done) | (right; dsimp only; omega) | (left; dsimp only; omega))), ((b3.set 0 _ (by simp) rfl).set 1 _ (by simp) rfl).set 2 _ (by simp) rfl⟩ ?_
  intro W9 ⟨hq9, b9⟩
  clear e0 e1 e2 f0 f1 f2
  have e0 := b9.cell 0 rfl
  have e1 := b9.cell 1 rfl
  have e2 := b9.cell 2 rfl
  exact bodyPost_ret (v := .tuple #[tV 2 0 (.slice pa pn pc), i6 0]) (by simp [results, Try.results20, go_sem, e0, e1, e2]) rfl ⟨_, _, _, rfl, HPN.out.symm, HP.out.below hq9, HPO.out, fun _ _ _ h => h, hq9⟩
set_option maxRecDepth 100000 in
set_option maxHeartbeats 4000000 in
theorem rgot_announced (s tt : Int) (ka : Option Addr) (kn kc : Nat) (us : List Int) (a : Bool) (t : Int) (pa : Option Addr) (pn pc : Nat) (l : Bool) (ds : List Int) (w : World) (hk : IsI w (.slice ka kn kc) us) (hkn : us.length = kn) (hkno : ka = none → kc = 0) (hp : IsI w (.slice pa pn pc) ds) (hpn : ds.length = pn) (hpno : pa = none → pc = 0) (h1 : kn ≤ 100000) (h2 : pn ≤ 100000) (hZ : kindZ a t ds.length l (numsB ds) = 1) (hs1 : ¬ 1 < s) (hs : s ≠ 1) :
    Calls Try.prog 20 #[tV s tt (.slice ka kn kc), pV a t (.slice pa pn pc) l] w (RefIs (.slice ka kn kc) us (.slice pa pn pc) ds (0, 1, t, []) w) := by
  have hsb : (s == 1) = false := by simpa using hs
  clear hs
  have HK := Lib.hid hk
  have HKN := Lib.hid hkn
  have HKO := Lib.hid hkno
  have HP := Lib.hid hp
  have HPN := Lib.hid hpn
  have HPO := Lib.hid hpno
  have HZ := Lib.hid hZ
  clear hk hkn hkno hp hpn hpno hZ
  obtain ⟨i0, hi, hz0, hz1, hz2⟩ := info_parts info_i64
  go_enter Try.func20, Try.ntmps20
  go_wp2_with fail
  refine calls_world (fun W => Below w.heap.size w W ∧ Blk W w.heap.size [i6 s, i6 tt, .slice ka kn kc] ∧ Blk W (w.heap.size + 1) [.bool a, i6 t, .slice pa pn pc, .bool l] ∧ Blk W (w.heap.size + 1 + 1) [i6 0, i6 0, .slice none 0 0]) ⟨by (repeat' (first | with_reducible exact Below.refl _ _ | with_reducible assumption | with_reducible refine q_alloc ?_ _ | with_reducible refine q_drew ?_ | with_reducible refine q_drewN _ ?_ | with_reducible refine q_setCell ?_ ?_ _ | (left; simp; done) | (right; simp; done) | (right; dsimp only; omega) | (left; dsimp only; omega))), ((Blk.new rfl).alloc _).alloc _, (blk_new1 rfl).alloc _, blk_new2 rfl⟩ ?_
  intro W1 ⟨hq1, b1, b2, b3⟩
  refine (rkind_any a t (.slice pa pn pc) l ds _ (HP.out.below hq1) (by rw [HPN.out]; omega)).mono ?_
  rintro e w2 ⟨rfl, hb⟩
  rw [kind_meet, HZ.out]
  have hq2 := q_step hq1 hb
  replace b1 := b1.below hb
  replace b2 := b2.below hb
  replace b3 := b3.below hb
  clear hb hq1
  have d0 := b1.cell 0 rfl
  have d1 := b1.cell 1 rfl
  have d2 := b1.cell 2 rfl
  have p0 := b2.cell 0 rfl
  have p1 := b2.cell 1 rfl
  have p2 := b2.cell 2 rfl
  have p3 := b2.cell 3 rfl
  have e0 := b3.cell 0 rfl
  have e1 := b3.cell 1 rfl
  have e2 := b3.cell 2 rfl
  have f0 := b3.froz 0 rfl
  have f1 := b3.froz 1 rfl
  have f2 := b3.froz 2 rfl
  have z3 := b3.lt
  go_wp2_with fail
  refine body_world (fun W => Below w.heap.size w W ∧ Blk W (w.heap.size + 1 + 1) [i6 1, i6 t, .slice none 0 0]) ⟨by (repeat' (first | with_reducible exact Below.refl _ _ | with_reducible assumption | with_reducible refine q_alloc ?_ _ | with_reducible refine q_drew ?_ | with_reducible refine q_drewN _ ?_ | with_reducible refine q_setCell ?_ ?_ _ | (left; simp; done) | (right; simp; done) | (right; dsimp only; omega) | (left; dsimp only; omega))), ((b3.set 0 _ (by simp) rfl).set 1 _ (by simp) rfl).set 2 _ (by simp) rfl⟩ ?_
  intro W9 ⟨hq9, b9⟩
  clear e0 e1 e2 f0 f1 f2
  have e0 := b9.cell 0 rfl
  have e1 := b9.cell 1 rfl
  have e2 := b9.cell 2 rfl
  exact bodyPost_ret (v := .tuple #[tV 1 t (.slice none 0 0), i6 0]) (by simp [results, Try.results20, go_sem, e0, e1, e2]) rfl ⟨_, _, _, rfl, rfl, Or.inl ⟨_, _, rfl, rfl⟩, fun _ => rfl, fun _ _ _ _ => Or.inl rfl, hq9⟩
set_option maxRecDepth 100000 in
set_option maxHeartbeats 4000000 in
theorem rgot_long (s tt : Int) (ka : Option Addr) (kn kc : Nat) (us : List Int) (a : Bool) (t : Int) (pa : Option Addr) (pn pc : Nat) (l : Bool) (ds : List Int) (w : World) (hk : IsI w (.slice ka kn kc) us) (hkn : us.length = kn) (hkno : ka = none → kc = 0) (hp : IsI w (.slice pa pn pc) ds) (hpn : ds.length = pn) (hpno : pa = none → pc = 0) (h1 : kn ≤ 100000) (h2 : pn ≤ 100000) (hZ : kindZ a t ds.length l (numsB ds) = 2) (hs : s = 1) (hl : tt < (kn : Int) + pn) :
    Calls Try.prog 20 #[tV s tt (.slice ka kn kc), pV a t (.slice pa pn pc) l] w (RefIs (.slice ka kn kc) us (.slice pa pn pc) ds (4, 1, tt, us) w) := by
  subst hs
  have HK := Lib.hid hk
  have HKN := Lib.hid hkn
  have HKO := Lib.hid hkno
  have HP := Lib.hid hp
  have HPN := Lib.hid hpn
  have HPO := Lib.hid hpno
  have HZ := Lib.hid hZ
  clear hk hkn hkno hp hpn hpno hZ
  obtain ⟨i0, hi, hz0, hz1, hz2⟩ := info_parts info_i64
  go_enter Try.func20, Try.ntmps20
  go_wp2_with fail
  refine calls_world (fun W => Below w.heap.size w W ∧ Blk W w.heap.size [i6 1, i6 tt, .slice ka kn kc] ∧ Blk W (w.heap.size + 1) [.bool a, i6 t, .slice pa pn pc, .bool l] ∧ Blk W (w.heap.size + 1 + 1) [i6 0, i6 0, .slice none 0 0]) ⟨by (repeat' (first | with_reducible exact Below.refl _ _ | with_reducible assumption | with_reducible refine q_alloc ?_ _ | with_reducible refine q_drew ?_ | with_reducible refine q_drewN _ ?_ | with_reducible refine q_setCell ?_ ?_ _ | (left; simp; done) | (right; simp; done) | (right; dsimp only; omega) | (left; dsimp only; omega))), ((Blk.new rfl).alloc _).alloc _, (blk_new1 rfl).alloc _, blk_new2 rfl⟩ ?_
  intro W1 ⟨hq1, b1, b2, b3⟩
  refine (rkind_any a t (.slice pa pn pc) l ds _ (HP.out.below hq1) (by rw [HPN.out]; omega)).mono ?_
  rintro e w2 ⟨rfl, hb⟩
  rw [kind_meet, HZ.out]
  have hq2 := q_step hq1 hb
  replace b1 := b1.below hb
  replace b2 := b2.below hb
  replace b3 := b3.below hb
  clear hb hq1
  have d0 := b1.cell 0 rfl
  have d1 := b1.cell 1 rfl
  have d2 := b1.cell 2 rfl
  have p0 := b2.cell 0 rfl
  have p1 := b2.cell 1 rfl
  have p2 := b2.cell 2 rfl
  have p3 := b2.cell 3 rfl
  have e0 := b3.cell 0 rfl
  have e1 := b3.cell 1 rfl
  have e2 := b3.cell 2 rfl
  have f0 := b3.froz 0 rfl
  have f1 := b3.froz 1 rfl
  have f2 := b3.froz 2 rfl
  have z3 := b3.lt
  go_wp2_with fail
  refine body_world (fun W => Below w.heap.size w W ∧ Blk W (w.heap.size + 1 + 1) [i6 1, i6 tt, .slice ka kn kc]) ⟨by (repeat' (first | with_reducible exact Below.refl _ _ | with_reducible assumption | with_reducible refine q_alloc ?_ _ | with_reducible refine q_drew ?_ | with_reducible refine q_drewN _ ?_ | with_reducible refine q_setCell ?_ ?_ _ | (left; simp; done) | (right; simp; done) | (right; dsimp only; omega) | (left; dsimp only; omega))), ((b3.set 0 _ (by simp) rfl).set 1 _ (by simp) rfl).set 2 _ (by simp) rfl⟩ ?_
  intro W9 ⟨hq9, b9⟩
  clear e0 e1 e2 f0 f1 f2
  have e0 := b9.cell 0 rfl
  have e1 := b9.cell 1 rfl
  have e2 := b9.cell 2 rfl
  exact bodyPost_ret (v := .tuple #[tV 1 tt (.slice ka kn kc), i6 4]) (by simp [results, Try.results20, go_sem, e0, e1, e2]) rfl ⟨_, _, _, rfl, HKN.out.symm, HK.out.below hq9, HKO.out, fun _ _ h _ => h, hq9⟩
set_option maxRecDepth 100000 in
set_option maxHeartbeats 4000000 in
theorem rgot_short (s tt : Int) (ka : Option Addr) (kn kc : Nat) (us : List Int) (a : Bool) (t : Int) (pa : Option Addr) (pn pc : Nat) (l : Bool) (ds : List Int) (w : World) (hk : IsI w (.slice ka kn kc) us) (hkn : us.length = kn) (hkno : ka = none → kc = 0) (hp : IsI w (.slice pa pn pc) ds) (hpn : ds.length = pn) (hpno : pa = none → pc = 0) (h1 : kn ≤ 100000) (h2 : pn ≤ 100000) (hZ : kindZ a t ds.length l (numsB ds) = 3) (hs : s = 1) (hl : (kn : Int) < tt) :
    Calls Try.prog 20 #[tV s tt (.slice ka kn kc), pV a t (.slice pa pn pc) l] w (RefIs (.slice ka kn kc) us (.slice pa pn pc) ds (3, 1, tt, us) w) := by
  subst hs
  have HK := Lib.hid hk
  have HKN := Lib.hid hkn
  have HKO := Lib.hid hkno
  have HP := Lib.hid hp
  have HPN := Lib.hid hpn
  have HPO := Lib.hid hpno
  have HZ := Lib.hid hZ
  clear hk hkn hkno hp hpn hpno hZ
  obtain ⟨i0, hi, hz0, hz1, hz2⟩ := info_parts info_i64
  go_enter Try.func20, Try.ntmps20
  go_wp2_with fail
  refine calls_world (fun W => Below w.heap.size w W ∧ Blk W w.heap.size [i6 1, i6 tt, .slice ka kn kc] ∧ Blk W (w.heap.size + 1) [.bool a, i6 t, .slice pa pn pc, .bool l] ∧ Blk W (w.heap.size + 1 + 1) [i6 0, i6 0, .slice none 0 0]) ⟨by (repeat' (first | with_reducible exact Below.refl _ _ | with_reducible assumption | with_reducible refine q_alloc ?_ _ | with_reducible refine q_drew ?_ | with_reducible refine q_drewN _ ?_ | with_reducible refine q_setCell ?_ ?_ _ | (left; simp; done) | (right; simp; done) | (right; dsimp only; omega) | (left; dsimp only; omega))), ((Blk.new rfl).alloc _).alloc _, (blk_new1 rfl).alloc _, blk_new2 rfl⟩ ?_
  intro W1 ⟨hq1, b1, b2, b3⟩
  refine (rkind_any a t (.slice pa pn pc) l ds _ (HP.out.below hq1) (by rw [HPN.out]; omega)).mono ?_
  rintro e w2 ⟨rfl, hb⟩
  rw [kind_meet, HZ.out]
  have hq2 := q_step hq1 hb
  replace b1 := b1.below hb
  replace b2 := b2.below hb
  replace b3 := b3.below hb
  clear hb hq1
  have d0 := b1.cell 0 rfl
  have d1 := b1.cell 1 rfl
  have d2 := b1.cell 2 rfl
  have p0 := b2.cell 0 rfl
  have p1 := b2.cell 1 rfl
  have p2 := b2.cell 2 rfl
  have p3 := b2.cell 3 rfl
  have e0 := b3.cell 0 rfl
  have e1 := b3.cell 1 rfl
  have e2 := b3.cell 2 rfl
  have f0 := b3.froz 0 rfl
  have f1 := b3.froz 1 rfl
  have f2 := b3.froz 2 rfl
  have z3 := b3.lt
  go_wp2_with fail
  refine body_world (fun W => Below w.heap.size w W ∧ Blk W (w.heap.size + 1 + 1) [i6 1, i6 tt, .slice ka kn kc]) ⟨by (repeat' (first | with_reducible exact Below.refl _ _ | with_reducible assumption | with_reducible refine q_alloc ?_ _ | with_reducible refine q_drew ?_ | with_reducible refine q_drewN _ ?_ | with_reducible refine q_setCell ?_ ?_ _ | (left; simp; done) | (right; simp; done) | (right; dsimp only; omega) | (left; dsimp only; omega))), ((b3.set 0 _ (by simp) rfl).set 1 _ (by simp) rfl).set 2 _ (by simp) rfl⟩ ?_
  intro W9 ⟨hq9, b9⟩
  clear e0 e1 e2 f0 f1 f2
  have e0 := b9.cell 0 rfl
  have e1 := b9.cell 1 rfl
  have e2 := b9.cell 2 rfl
  exact bodyPost_ret (v := .tuple #[tV 1 tt (.slice ka kn kc), i6 3]) (by simp [results, Try.results20, go_sem, e0, e1, e2]) rfl ⟨_, _, _, rfl, HKN.out.symm, HK.out.below hq9, HKO.out, fun _ _ h _ => h, hq9⟩
set_option maxRecDepth 100000 in
set_option maxHeartbeats 4000000 in
theorem rgot_end (s tt : Int) (ka : Option Addr) (kn kc : Nat) (us : List Int) (a : Bool) (t : Int) (pa : Option Addr) (pn pc : Nat) (l : Bool) (ds : List Int) (w : World) (hk : IsI w (.slice ka kn kc) us) (hkn : us.length = kn) (hkno : ka = none → kc = 0) (hp : IsI w (.slice pa pn pc) ds) (hpn : ds.length = pn) (hpno : pa = none → pc = 0) (h1 : kn ≤ 100000) (h2 : pn ≤ 100000) (hZ : kindZ a t ds.length l (numsB ds) = 3) (hs : s = 1) (hl : ¬ (kn : Int) < tt) :
    Calls Try.prog 20 #[tV s tt (.slice ka kn kc), pV a t (.slice pa pn pc) l] w (RefIs (.slice ka kn kc) us (.slice pa pn pc) ds (0, 2, 0, us) w) := by
  subst hs
  have HK := Lib.hid hk
  have HKN := Lib.hid hkn
  have HKO := Lib.hid hkno
  have HP := Lib.hid hp
  have HPN := Lib.hid hpn
  have HPO := Lib.hid hpno
  have HZ := Lib.hid hZ
  clear hk hkn hkno hp hpn hpno hZ
  obtain ⟨i0, hi, hz0, hz1, hz2⟩ := info_parts info_i64
  go_enter Try.func20, Try.ntmps20
  go_wp2_with fail
  refine calls_world (fun W => Below w.heap.size w W ∧ Blk W w.heap.size [i6 1, i6 tt, .slice ka kn kc] ∧ Blk W (w.heap.size + 1) [.bool a, i6 t, .slice pa pn pc, .bool l] ∧ Blk W (w.heap.size + 1 + 1) [i6 0, i6 0, .slice none 0 0]) ⟨by (repeat' (first | with_reducible exact Below.refl _ _ | with_reducible assumption | with_reducible refine q_alloc ?_ _ | with_reducible refine q_drew ?_ | with_reducible refine q_drewN _ ?_ | with_reducible refine q_setCell ?_ ?_ _ | (left; simp; done) | (right; simp; done) | (right; dsimp only; omega) | (left; dsimp only; omega))), ((Blk.new rfl).alloc _).alloc _, (blk_new1 rfl).alloc _, blk_new2 rfl⟩ ?_
  intro W1 ⟨hq1, b1, b2, b3⟩
  refine (rkind_any a t (.slice pa pn pc) l ds _ (HP.out.below hq1) (by rw [HPN.out]; omega)).mono ?_
  rintro e w2 ⟨rfl, hb⟩
  rw [kind_meet, HZ.out]
  have hq2 := q_step hq1 hb
  replace b1 := b1.below hb
  replace b2 := b2.below hb
  replace b3 := b3.below hb
  clear hb hq1
  have d0 := b1.cell 0 rfl
  have d1 := b1.cell 1 rfl
  have d2 := b1.cell 2 rfl
  have p0 := b2.cell 0 rfl
  have p1 := b2.cell 1 rfl
  have p2 := b2.cell 2 rfl
  have p3 := b2.cell 3 rfl
  have e0 := b3.cell 0 rfl
  have e1 := b3.cell 1 rfl
  have e2 := b3.cell 2 rfl
  have f0 := b3.froz 0 rfl
  have f1 := b3.froz 1 rfl
  have f2 := b3.froz 2 rfl
  have z3 := b3.lt
  go_wp2_with fail
  refine body_world (fun W => Below w.heap.size w W ∧ Blk W (w.heap.size + 1 + 1) [i6 2, i6 0, .slice ka kn kc]) ⟨by (repeat' (first | with_reducible exact Below.refl _ _ | with_reducible assumption | with_reducible refine q_alloc ?_ _ | with_reducible refine q_drew ?_ | with_reducible refine q_drewN _ ?_ | with_reducible refine q_setCell ?_ ?_ _ | (left; simp; done) | (right; simp; done) | (right; dsimp only; omega) | (left; dsimp only; omega))), ((b3.set 0 _ (by simp) rfl).set 1 _ (by simp) rfl).set 2 _ (by simp) rfl⟩ ?_
  intro W9 ⟨hq9, b9⟩
  clear e0 e1 e2 f0 f1 f2
  have e0 := b9.cell 0 rfl
  have e1 := b9.cell 1 rfl
  have e2 := b9.cell 2 rfl
  exact bodyPost_ret (v := .tuple #[tV 2 0 (.slice ka kn kc), i6 0]) (by simp [results, Try.results20, go_sem, e0, e1, e2]) rfl ⟨_, _, _, rfl, HKN.out.symm, HK.out.below hq9, HKO.out, fun _ _ h _ => h, hq9⟩
end Go.Proofs.Ytlaejolgjchfcaa
