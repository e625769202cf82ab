/- Layer 42: Got, whole; Data. -/
import Derived.Test.YtlaejolgjchfcaaPc15
import Derived.Test.YtlaejolgjchfcaaPc8
namespace Go.Proofs.Ytlaejolgjchfcaa
open Go Go.RowKit Go.Maps
set_option linter.unusedSimpArgs false
set_option linter.unusedVariables false
theorem fx0 : ∀ w, (Instr.field 74 (.agg #[.bool false, .bool true, fV 35, fV 36]) 3).run Try.prog w = .ok (fV 36) w := fun _ => by kernel_rfl
theorem fx1 : ∀ w, (Instr.field 74 (.agg #[.bool true, .bool false, fV 37, fV 38]) 3).run Try.prog w = .ok (fV 38) w := fun _ => by kernel_rfl
theorem fx2 : ∀ w, (Instr.field 74 (.agg #[.bool true, .bool false, fV 39, fV 40]) 3).run Try.prog w = .ok (fV 40) w := fun _ => by kernel_rfl
theorem fx3 : ∀ w, (Instr.field 74 (.agg #[.bool true, .bool true, fV 41, fV 42]) 3).run Try.prog w = .ok (fV 42) w := fun _ => by kernel_rfl
def waysF (Z s tt : Int) (us : List Int) (t : Int) (ds : List Int) : Int × Int × Int × List Int :=
  if Z = 0 then (if s = 0 then (0, 2, 0, ds) else (8, s, tt, us))
  else if Z = 1 then (if s = 0 then (0, 1, t, []) else (8, s, tt, us))
  else if Z = 2 then (if s = 1 then (if tt < (us.length : Int) + ds.length then (4, 1, tt, us) else (0, 1, tt, us ++ ds)) else (8, s, tt, us))
  else (if s = 1 then (if (us.length : Int) < tt then (3, 1, tt, us) else (0, 2, tt, us)) else (8, s, tt, us))
def WayIs (kv : Value) (us : List Int) (F : Int × Int × Int × List Int) (w : World) (e : Ending) (w' : World) : Prop :=
  ∃ kv', e = .returned (.tuple #[tV F.2.1 F.2.2.1 kv', i6 F.1]) ∧ IsI w' kv' F.2.2.2 ∧ (∀ r, r < w.heap.size → Apart r kv us → Apart r kv' F.2.2.2) ∧ Below w.heap.size w w'
def GotIs (kv : Value) (us : List Int) (F : Int × Int × Int × List Int) (w : World) (e : Ending) (w' : World) : Prop :=
  ∃ kv', e = .returned (.tuple #[tV F.2.1 F.2.2.1 kv', i6 F.1]) ∧ IsI w' kv' F.2.2.2 ∧ (∀ r, r < w.heap.size → Apart r kv us → Apart r kv' F.2.2.2) ∧ Below w.heap.size w w'
theorem whole_any (s tt : Int) (kv : Value) (us : List Int) (a : Bool) (t : Int) (pv : Value) (l : Bool) (ds : List Int) (w : World) (hk : IsI w kv us) (hp : IsI w pv ds) (h1 : us.length ≤ 1000000) (h2 : ds.length ≤ 1000000) :
    Calls Try.prog 36 #[tV s tt kv, pV a t pv l] w (WayIs kv us (waysF 0 s tt us t ds) w) := by
  obtain ⟨ka, kc, rfl, _⟩ := isI_form hk
  obtain ⟨pa, pc, rfl, _⟩ := isI_form hp
  unfold waysF
  rw [if_pos rfl]
  by_cases hs : s = 0
  · rw [if_pos hs]
    exact (whole_ok s tt ka _ kc a t pa _ pc l w ds hs hp h2).mono fun e w' ⟨v, he, hi, ⟨g, m, cp, hv, hg⟩, hb⟩ => ⟨v, he, hi, fun r hr _ => Or.inr ⟨g, 0, m, cp, hv, by omega⟩, hb⟩
  · rw [if_neg hs]
    exact (whole_order s tt ka _ kc a t pa _ pc l w hs).mono fun e w' ⟨he, hb⟩ => ⟨_, he, hk.below hb, fun _ _ h => h, hb⟩
theorem announced_any (s tt : Int) (kv : Value) (us : List Int) (a : Bool) (t : Int) (pv : Value) (l : Bool) (ds : List Int) (w : World) (hk : IsI w kv us) (hp : IsI w pv ds) (h1 : us.length ≤ 1000000) (h2 : ds.length ≤ 1000000) :
    Calls Try.prog 38 #[tV s tt kv, pV a t pv l] w (WayIs kv us (waysF 1 s tt us t ds) w) := by
  obtain ⟨ka, kc, rfl, _⟩ := isI_form hk
  obtain ⟨pa, pc, rfl, _⟩ := isI_form hp
  unfold waysF
  rw [if_neg (by decide), if_pos rfl]
  by_cases hs : s = 0
  · rw [if_pos hs]
    exact (announced_ok s tt ka _ kc a t pa _ pc l w hs).mono fun e w' ⟨he, hb⟩ => ⟨_, he, Or.inl ⟨_, _, rfl, rfl⟩, fun _ _ _ => Or.inl rfl, hb⟩
  · rw [if_neg hs]
    exact (announced_order s tt ka _ kc a t pa _ pc l w hs).mono fun e w' ⟨he, hb⟩ => ⟨_, he, hk.below hb, fun _ _ h => h, hb⟩
theorem part_any (s tt : Int) (kv : Value) (us : List Int) (a : Bool) (t : Int) (pv : Value) (l : Bool) (ds : List Int) (w : World) (hk : IsI w kv us) (hp : IsI w pv ds) (h1 : us.length ≤ 1000000) (h2 : ds.length ≤ 1000000) (h0 : 0 < ds.length) :
    Calls Try.prog 40 #[tV s tt kv, pV a t pv l] w (WayIs kv us (waysF 2 s tt us t ds) w) := by
  obtain ⟨ka, kc, rfl, _⟩ := isI_form hk
  obtain ⟨pa, pc, rfl, _⟩ := isI_form hp
  unfold waysF
  rw [if_neg (by decide), if_neg (by decide), if_pos rfl]
  by_cases hs : s = 1
  · rw [if_pos hs]
    by_cases ht : tt < (us.length : Int) + ds.length
    · rw [if_pos ht]
      exact (part_long s tt ka _ kc a t pa _ pc l w hs h1 h2 ht).mono fun e w' ⟨he, hb⟩ => ⟨_, he, hk.below hb, fun _ _ h => h, hb⟩
    · rw [if_neg ht]
      exact (part_ok s tt ka _ kc a t pa _ pc l w us ds hs rfl rfl hk hp h0 h1 h2 ht).mono fun e w' ⟨v, he, hi, ⟨g, m, cp, hv, hg⟩, hb⟩ => ⟨v, he, hi, fun r hr _ => Or.inr ⟨g, 0, m, cp, hv, by omega⟩, hb⟩
  · rw [if_neg hs]
    exact (part_order s tt ka _ kc a t pa _ pc l w hs).mono fun e w' ⟨he, hb⟩ => ⟨_, he, hk.below hb, fun _ _ h => h, hb⟩
theorem end_any (s tt : Int) (kv : Value) (us : List Int) (a : Bool) (t : Int) (pv : Value) (l : Bool) (ds : List Int) (w : World) (hk : IsI w kv us) (hp : IsI w pv ds) (h1 : us.length ≤ 1000000) (h2 : ds.length ≤ 1000000) :
    Calls Try.prog 42 #[tV s tt kv, pV a t pv l] w (WayIs kv us (waysF 3 s tt us t ds) w) := by
  obtain ⟨ka, kc, rfl, _⟩ := isI_form hk
  obtain ⟨pa, pc, rfl, _⟩ := isI_form hp
  unfold waysF
  rw [if_neg (by decide), if_neg (by decide), if_neg (by decide)]
  by_cases hs : s = 1
  · rw [if_pos hs]
    by_cases ht : (us.length : Int) < tt
    · rw [if_pos ht]
      exact (end_short s tt ka _ kc a t pa _ pc l w hs ht).mono fun e w' ⟨he, hb⟩ => ⟨_, he, hk.below hb, fun _ _ h => h, hb⟩
    · rw [if_neg ht]
      exact (end_ok s tt ka _ kc a t pa _ pc l w hs ht).mono fun e w' ⟨he, hb⟩ => ⟨_, he, hk.below hb, fun _ _ h => h, hb⟩
  · rw [if_neg hs]
    exact (end_order s tt ka _ kc a t pa _ pc l w hs).mono fun e w' ⟨he, hb⟩ => ⟨_, he, hk.below hb, fun _ _ h => h, hb⟩
set_option maxRecDepth 100000 in
set_option maxHeartbeats 4000000 in
theorem got_form (s tt : Int) (kv : Value) (us : List Int) (a : Bool) (t : Int) (pv : Value) (l : Bool) (ds : List Int) (w : World) (hk : IsI w kv us) (hp : IsI w pv ds) (h1 : us.length ≤ 1000000) (h2 : ds.length ≤ 1000000) (Z : Int) (hZ : kindZ a t ds.length l (numsB ds) = Z) (h0 : Z < 0) :
    Calls Try.prog 19 #[tV s tt kv, pV a t pv l] w fun e w' => e = .returned (.tuple #[tV s tt kv, i6 2]) ∧ Below w.heap.size w w' := by
  obtain ⟨ka, kc, rfl, _⟩ := isI_form hk
  obtain ⟨pa, pc, rfl, _⟩ := isI_form hp
  have HK := Lib.hid hk
  have HP := Lib.hid hp
  obtain ⟨kn, hkn⟩ : ∃ kn, us.length = kn := ⟨_, rfl⟩
  rw [hkn] at HK h1 ⊢
  have HKN := Lib.hid hkn
  obtain ⟨pn, hpn⟩ : ∃ pn, ds.length = pn := ⟨_, rfl⟩
  rw [hpn] at HP h2 hZ ⊢
  have HPN := Lib.hid hpn
  have HZ := Lib.hid hZ
  clear hk hp hkn hpn hZ
  go_enter Try.func19, Try.ntmps19
  go_wp2_with fail
  refine calls_world (fun W => Below w.heap.size w W ∧ Blk W w.heap.size [i6 s, i6 tt, .slice ka kn kc] ∧ Blk W (w.heap.size + 1) [.bool a, i6 t, .slice pa pn pc, .bool l] ∧ Blk W (w.heap.size + 1 + 1) [i6 0, i6 0, .slice none 0 0]) ⟨by (repeat' (first | with_reducible exact Below.refl _ _ | with_reducible assumption | with_reducible refine q_alloc ?_ _ | with_reducible refine q_drew ?_ | with_reducible refine q_drewN _ ?_ | with_reducible refine q_setCell ?_ ?_ _ | (left; simp; done) | (right; simp; done) | (right; dsimp only; omega) | (left; dsimp only; omega))), ((Blk.new rfl).alloc _).alloc _, (blk_new1 rfl).alloc _, blk_new2 rfl⟩ ?_
  intro W1 ⟨hq1, b1, b2, b3⟩
  refine (kind_any a t (.slice pa pn pc) l ds _ (HP.out.below hq1) (by rw [HPN.out]; exact h2)).mono ?_
  rintro e w2 ⟨rfl, hb⟩
  rw [HPN.out, HZ.out]
  have hq2 := q_step hq1 hb
  replace b1 := b1.below hb
  replace b2 := b2.below hb
  replace b3 := b3.below hb
  clear hb hq1
  have d0 := b1.cell 0 rfl
  have d1 := b1.cell 1 rfl
  have d2 := b1.cell 2 rfl
  have p0 := b2.cell 0 rfl
  have p1 := b2.cell 1 rfl
  have p2 := b2.cell 2 rfl
  have p3 := b2.cell 3 rfl
  have e0 := b3.cell 0 rfl
  have e1 := b3.cell 1 rfl
  have e2 := b3.cell 2 rfl
  have f0 := b3.froz 0 rfl
  have f1 := b3.froz 1 rfl
  have f2 := b3.froz 2 rfl
  have z3 := b3.lt
  go_wp2_with fail
  refine body_world (fun W => Below w.heap.size w W ∧ Blk W (w.heap.size + 1 + 1) [i6 s, i6 tt, .slice ka kn kc]) ⟨by (repeat' (first | with_reducible exact Below.refl _ _ | with_reducible assumption | with_reducible refine q_alloc ?_ _ | with_reducible refine q_drew ?_ | with_reducible refine q_drewN _ ?_ | with_reducible refine q_setCell ?_ ?_ _ | (left; simp; done) | (right; simp; done) | (right; dsimp only; omega) | (left; dsimp only; omega))), ((b3.set 0 _ (by simp) rfl).set 1 _ (by simp) rfl).set 2 _ (by simp) rfl⟩ ?_
  intro W9 ⟨hq9, b9⟩
  clear e0 e1 e2 f0 f1 f2
  have e0 := b9.cell 0 rfl
  have e1 := b9.cell 1 rfl
  have e2 := b9.cell 2 rfl
  exact bodyPost_ret (v := .tuple #[tV s tt (.slice ka kn kc), i6 2]) (by simp [results, Try.results19, go_sem, e0, e1, e2]) rfl ⟨rfl, hq9⟩
set_option maxRecDepth 100000 in
set_option maxHeartbeats 4000000 in
theorem got_state (s tt : Int) (kv : Value) (us : List Int) (a : Bool) (t : Int) (pv : Value) (l : Bool) (ds : List Int) (w : World) (hk : IsI w kv us) (hp : IsI w pv ds) (h1 : us.length ≤ 1000000) (h2 : ds.length ≤ 1000000) (Z : Int) (hZ : kindZ a t ds.length l (numsB ds) = Z) (h0 : ¬ Z < 0) (hs : s = 2 ∨ s = 3) :
    Calls Try.prog 19 #[tV s tt kv, pV a t pv l] w fun e w' => e = .returned (.tuple #[tV s tt kv, i6 9]) ∧ Below w.heap.size w w' := by
  obtain ⟨ka, kc, rfl, _⟩ := isI_form hk
  obtain ⟨pa, pc, rfl, _⟩ := isI_form hp
  have HK := Lib.hid hk
  have HP := Lib.hid hp
  obtain ⟨kn, hkn⟩ : ∃ kn, us.length = kn := ⟨_, rfl⟩
  rw [hkn] at HK h1 ⊢
  have HKN := Lib.hid hkn
  obtain ⟨pn, hpn⟩ : ∃ pn, ds.length = pn := ⟨_, rfl⟩
  rw [hpn] at HP h2 hZ ⊢
  have HPN := Lib.hid hpn
  have HZ := Lib.hid hZ
  clear hk hp hkn hpn hZ
  go_enter Try.func19, Try.ntmps19
  go_wp2_with fail
  refine calls_world (fun W => Below w.heap.size w W ∧ Blk W w.heap.size [i6 s, i6 tt, .slice ka kn kc] ∧ Blk W (w.heap.size + 1) [.bool a, i6 t, .slice pa pn pc, .bool l] ∧ Blk W (w.heap.size + 1 + 1) [i6 0, i6 0, .slice none 0 0]) ⟨by (repeat' (first | with_reducible exact Below.refl _ _ | with_reducible assumption | with_reducible refine q_alloc ?_ _ | with_reducible refine q_drew ?_ | with_reducible refine q_drewN _ ?_ | with_reducible refine q_setCell ?_ ?_ _ | (left; simp; done) | (right; simp; done) | (right; dsimp only; omega) | (left; dsimp only; omega))), ((Blk.new rfl).alloc _).alloc _, (blk_new1 rfl).alloc _, blk_new2 rfl⟩ ?_
  intro W1 ⟨hq1, b1, b2, b3⟩
  refine (kind_any a t (.slice pa pn pc) l ds _ (HP.out.below hq1) (by rw [HPN.out]; exact h2)).mono ?_
  rintro e w2 ⟨rfl, hb⟩
  rw [HPN.out, HZ.out]
  have hq2 := q_step hq1 hb
  replace b1 := b1.below hb
  replace b2 := b2.below hb
  replace b3 := b3.below hb
  clear hb hq1
  have d0 := b1.cell 0 rfl
  have d1 := b1.cell 1 rfl
  have d2 := b1.cell 2 rfl
  have p0 := b2.cell 0 rfl
  have p1 := b2.cell 1 rfl
  have p2 := b2.cell 2 rfl
  have p3 := b2.cell 3 rfl
  have e0 := b3.cell 0 rfl
  have e1 := b3.cell 1 rfl
  have e2 := b3.cell 2 rfl
  have f0 := b3.froz 0 rfl
  have f1 := b3.froz 1 rfl
  have f2 := b3.froz 2 rfl
  have z3 := b3.lt
  rcases hs with rfl | rfl
  · skip
    go_wp2_with fail
    refine body_world (fun W => Below w.heap.size w W ∧ Blk W (w.heap.size + 1 + 1) [i6 2, i6 tt, .slice ka kn kc]) ⟨by (repeat' (first | with_reducible exact Below.refl _ _ | with_reducible assumption | with_reducible refine q_alloc ?_ _ | with_reducible refine q_drew ?_ | with_reducible refine q_drewN _ ?_ | with_reducible refine q_setCell ?_ ?_ _ | (left; simp; done) | (right; simp; done) | (right; dsimp only; omega) | (left; dsimp only; omega))), ((b3.set 0 _ (by simp) rfl).set 1 _ (by simp) rfl).set 2 _ (by simp) rfl⟩ ?_
    intro W9 ⟨hq9, b9⟩
    clear e0 e1 e2 f0 f1 f2
    have e0 := b9.cell 0 rfl
    have e1 := b9.cell 1 rfl
    have e2 := b9.cell 2 rfl
    exact bodyPost_ret (v := .tuple #[tV 2 tt (.slice ka kn kc), i6 9]) (by simp [results, Try.results19, go_sem, e0, e1, e2]) rfl ⟨rfl, hq9⟩
  · skip
    go_wp2_with fail
    refine body_world (fun W => Below w.heap.size w W ∧ Blk W (w.heap.size + 1 + 1) [i6 3, i6 tt, .slice ka kn kc]) ⟨by (repeat' (first | with_reducible exact Below.refl _ _ | with_reducible assumption | with_reducible refine q_alloc ?_ _ | with_reducible refine q_drew ?_ | with_reducible refine q_drewN _ ?_ | with_reducible refine q_setCell ?_ ?_ _ | (left; simp; done) | (right; simp; done) | (right; dsimp only; omega) | (left; dsimp only; omega))), ((b3.set 0 _ (by simp) rfl).set 1 _ (by simp) rfl).set 2 _ (by simp) rfl⟩ ?_
    intro W9 ⟨hq9, b9⟩
    clear e0 e1 e2 f0 f1 f2
    have e0 := b9.cell 0 rfl
    have e1 := b9.cell 1 rfl
    have e2 := b9.cell 2 rfl
    exact bodyPost_ret (v := .tuple #[tV 3 tt (.slice ka kn kc), i6 9]) (by simp [results, Try.results19, go_sem, e0, e1, e2]) rfl ⟨rfl, hq9⟩
set_option maxRecDepth 100000 in
set_option maxHeartbeats 4000000 in
theorem got_whole (s tt : Int) (kv : Value) (us : List Int) (a : Bool) (t : Int) (pv : Value) (l : Bool) (ds : List Int) (w : World) (hk : IsI w kv us) (hp : IsI w pv ds) (h1 : us.length ≤ 1000000) (h2 : ds.length ≤ 1000000) (hZ : kindZ a t ds.length l (numsB ds) = 0) (hs2 : (s == 2) = false) (hs3 : (s == 3) = false) :
    Calls Try.prog 19 #[tV s tt kv, pV a t pv l] w (GotIs kv us (waysF 0 s tt us t ds) w) := by
  obtain ⟨E, s', t', us', hF⟩ : ∃ E s' t' us', waysF 0 s tt us t ds = (E, s', t', us') := ⟨_, _, _, _, rfl⟩
  rw [hF]
  have HF := Lib.hid hF
  clear hF
  have hix := ix0
  have hfx := fx0
  have HUL := Lib.hid h1
  have HDL := Lib.hid h2
  obtain ⟨ka, kc, rfl, _⟩ := isI_form hk
  obtain ⟨pa, pc, rfl, _⟩ := isI_form hp
  have HK := Lib.hid hk
  have HP := Lib.hid hp
  obtain ⟨kn, hkn⟩ : ∃ kn, us.length = kn := ⟨_, rfl⟩
  rw [hkn] at HK h1 ⊢
  have HKN := Lib.hid hkn
  obtain ⟨pn, hpn⟩ : ∃ pn, ds.length = pn := ⟨_, rfl⟩
  rw [hpn] at HP h2 hZ ⊢
  have HPN := Lib.hid hpn
  have HZ := Lib.hid hZ
  clear hk hp hkn hpn hZ
  go_enter Try.func19, Try.ntmps19
  go_wp2_with fail
  refine calls_world (fun W => Below w.heap.size w W ∧ Blk W w.heap.size [i6 s, i6 tt, .slice ka kn kc] ∧ Blk W (w.heap.size + 1) [.bool a, i6 t, .slice pa pn pc, .bool l] ∧ Blk W (w.heap.size + 1 + 1) [i6 0, i6 0, .slice none 0 0]) ⟨by (repeat' (first | with_reducible exact Below.refl _ _ | with_reducible assumption | with_reducible refine q_alloc ?_ _ | with_reducible refine q_drew ?_ | with_reducible refine q_drewN _ ?_ | with_reducible refine q_setCell ?_ ?_ _ | (left; simp; done) | (right; simp; done) | (right; dsimp only; omega) | (left; dsimp only; omega))), ((Blk.new rfl).alloc _).alloc _, (blk_new1 rfl).alloc _, blk_new2 rfl⟩ ?_
  intro W1 ⟨hq1, b1, b2, b3⟩
  refine (kind_any a t (.slice pa pn pc) l ds _ (HP.out.below hq1) (by rw [HPN.out]; exact h2)).mono ?_
  rintro e w2 ⟨rfl, hb⟩
  rw [HPN.out, HZ.out]
  have hq2 := q_step hq1 hb
  replace b1 := b1.below hb
  replace b2 := b2.below hb
  replace b3 := b3.below hb
  clear hb hq1
  have d0 := b1.cell 0 rfl
  have d1 := b1.cell 1 rfl
  have d2 := b1.cell 2 rfl
  have p0 := b2.cell 0 rfl
  have p1 := b2.cell 1 rfl
  have p2 := b2.cell 2 rfl
  have p3 := b2.cell 3 rfl
  have e0 := b3.cell 0 rfl
  have e1 := b3.cell 1 rfl
  have e2 := b3.cell 2 rfl
  have f0 := b3.froz 0 rfl
  have f1 := b3.froz 1 rfl
  have f2 := b3.froz 2 rfl
  have z3 := b3.lt
  have HB3 := Lib.hid b3
  clear b1 b2 b3
  generalize hRL : rulesL.toArray = RL at hix
  have HRL := Lib.hid hRL
  clear hRL
  go_upto_region 6 with fail
  go_cut [5] from 23 (fun q wx => q = i6 E ∧ ∃ ka' n' kc', Blk wx (w.heap.size + 1 + 1) [i6 s', i6 t', (.slice ka' n' kc')] ∧ IsI wx (.slice ka' n' kc') us' ∧ Hid (∀ r, r < w.heap.size → Apart r (.slice ka kn kc) us → Apart r (.slice ka' n' kc') us') ∧ Below w.heap.size w wx)
  case first =>
    have J : Below w2.heap.size w2 w2 := Below.refl _ _
    have D0 := stick d0
    have D1 := stick d1
    have D2 := stick d2
    have P0 := stick p0
    have P1 := stick p1
    have P2 := stick p2
    have P3 := stick p3
    clear d0 d1 d2 p0 p1 p2 p3 e0 e1 e2 f0 f1 f2
    have K1 : ∀ w', Below w2.heap.size w2 w' → w'.cell? ⟨w.heap.size, 0, none⟩ = some (i6 s) ∧ w'.cell? ⟨w.heap.size, 1, none⟩ = some (i6 tt) ∧ w'.cell? ⟨w.heap.size, 2, none⟩ = some (.slice ka kn kc) ∧ w'.cell? ⟨w.heap.size + 1, 0, none⟩ = some (.bool a) ∧ w'.cell? ⟨w.heap.size + 1, 1, none⟩ = some (i6 t) ∧ w'.cell? ⟨w.heap.size + 1, 2, none⟩ = some (.slice pa pn pc) ∧ w'.cell? ⟨w.heap.size + 1, 3, none⟩ = some (.bool l) := fun w' h => ⟨D0 _ h, D1 _ h, D2 _ h, P0 _ h, P1 _ h, P2 _ h, P3 _ h⟩
    have K2 : ∀ (W : World) (u v x : Value), Below w2.heap.size w2 W → (fun w' => w'.cell? ⟨w.heap.size, 0, none⟩ = some (i6 s) ∧ w'.cell? ⟨w.heap.size, 1, none⟩ = some (i6 tt) ∧ w'.cell? ⟨w.heap.size, 2, none⟩ = some (.slice ka kn kc) ∧ w'.cell? ⟨w.heap.size + 1, 0, none⟩ = some (.bool a) ∧ w'.cell? ⟨w.heap.size + 1, 1, none⟩ = some (i6 t) ∧ w'.cell? ⟨w.heap.size + 1, 2, none⟩ = some (.slice pa pn pc) ∧ w'.cell? ⟨w.heap.size + 1, 3, none⟩ = some (.bool l)) (((W.setCell ⟨w.heap.size + 1 + 1, 0, none⟩ u).setCell ⟨w.heap.size + 1 + 1, 1, none⟩ v).setCell ⟨w.heap.size + 1 + 1, 2, none⟩ x) := by
      intro W u v x h
      have far : ∀ (V : World) (o b j : Nat) (y z : Value), b ≠ w.heap.size + 1 + 1 → V.cell? ⟨b, j, none⟩ = some y → (V.setCell ⟨w.heap.size + 1 + 1, o, none⟩ z).cell? ⟨b, j, none⟩ = some y := fun V o b j y z hb hy => set_far hy (by intro e; apply hb; injection e with e1; first | exact e1.symm | exact e1)
      exact ⟨far _ _ _ _ _ _ (by omega) (far _ _ _ _ _ _ (by omega) (far _ _ _ _ _ _ (by omega) (D0 _ h))), far _ _ _ _ _ _ (by omega) (far _ _ _ _ _ _ (by omega) (far _ _ _ _ _ _ (by omega) (D1 _ h))), far _ _ _ _ _ _ (by omega) (far _ _ _ _ _ _ (by omega) (far _ _ _ _ _ _ (by omega) (D2 _ h))), far _ _ _ _ _ _ (by omega) (far _ _ _ _ _ _ (by omega) (far _ _ _ _ _ _ (by omega) (P0 _ h))), far _ _ _ _ _ _ (by omega) (far _ _ _ _ _ _ (by omega) (far _ _ _ _ _ _ (by omega) (P1 _ h))), far _ _ _ _ _ _ (by omega) (far _ _ _ _ _ _ (by omega) (far _ _ _ _ _ _ (by omega) (P2 _ h))), far _ _ _ _ _ _ (by omega) (far _ _ _ _ _ _ (by omega) (far _ _ _ _ _ _ (by omega) (P3 _ h)))⟩
    have HK1 := Lib.hid K1
    have HK2 := Lib.hid K2
    clear K1 K2 D0 D1 D2 P0 P1 P2 P3
    go_region_held3 (fun w' => w'.cell? ⟨w.heap.size, 0, none⟩ = some (i6 s) ∧ w'.cell? ⟨w.heap.size, 1, none⟩ = some (i6 tt) ∧ w'.cell? ⟨w.heap.size, 2, none⟩ = some (.slice ka kn kc) ∧ w'.cell? ⟨w.heap.size + 1, 0, none⟩ = some (.bool a) ∧ w'.cell? ⟨w.heap.size + 1, 1, none⟩ = some (i6 t) ∧ w'.cell? ⟨w.heap.size + 1, 2, none⟩ = some (.slice pa pn pc) ∧ w'.cell? ⟨w.heap.size + 1, 3, none⟩ = some (.bool l))
      (first | exact HK1.out _ (by first | with_reducible exact J | with_reducible exact J.drew | with_reducible exact Below.refl _ _ | with_reducible exact (Below.refl _ _).drew) | exact HK2.out _ _ _ _ (by first | with_reducible exact J | with_reducible exact J.drew))
      (first
        | (go_at_call 31; refine (rules_any _).mono ?_; rintro e w5 ⟨rfl, hb⟩; rw [HRL.out]; have J5 : Below w2.heap.size w2 w5 := q_step (by first | with_reducible exact J | with_reducible exact J.drew | (repeat' (first | with_reducible exact Below.refl _ _ | with_reducible assumption | with_reducible refine q_alloc ?_ _ | with_reducible refine q_drew ?_ | with_reducible refine q_drewN _ ?_ | with_reducible refine q_setCell ?_ ?_ _ | (left; simp; done) | (right; simp; done) | (right; dsimp only; omega) | (left; dsimp only; omega)))) hb; replace J := J5; clear J5 hb)
        | (go_at_call 36; refine (whole_any s tt (.slice ka kn kc) us a t (.slice pa pn pc) l ds _ (HK.out.below (q_step hq2 (by first | with_reducible exact J | with_reducible exact J.drew | (repeat' (first | with_reducible exact Below.refl _ _ | with_reducible assumption | with_reducible refine q_alloc ?_ _ | with_reducible refine q_drew ?_ | with_reducible refine q_drewN _ ?_ | with_reducible refine q_setCell ?_ ?_ _ | (left; simp; done) | (right; simp; done) | (right; dsimp only; omega) | (left; dsimp only; omega)))))) (HP.out.below (q_step hq2 (by first | with_reducible exact J | with_reducible exact J.drew | (repeat' (first | with_reducible exact Below.refl _ _ | with_reducible assumption | with_reducible refine q_alloc ?_ _ | with_reducible refine q_drew ?_ | with_reducible refine q_drewN _ ?_ | with_reducible refine q_setCell ?_ ?_ _ | (left; simp; done) | (right; simp; done) | (right; dsimp only; omega) | (left; dsimp only; omega)))))) HUL.out HDL.out).mono ?_; rw [HF.out]; rintro e w5 ⟨kv', rfl, hi5, hap, hb⟩; have HAP := Lib.hid (hap (w.heap.size + 1 + 1) (Nat.lt_of_lt_of_le z3 (Below.size (by first | with_reducible exact J | with_reducible exact J.drew | (repeat' (first | with_reducible exact Below.refl _ _ | with_reducible assumption | with_reducible refine q_alloc ?_ _ | with_reducible refine q_drew ?_ | with_reducible refine q_drewN _ ?_ | with_reducible refine q_setCell ?_ ?_ _ | (left; simp; done) | (right; simp; done) | (right; dsimp only; omega) | (left; dsimp only; omega)))))) (apart_old HK.out (by omega))); have HAQ : Hid (∀ r, r < w.heap.size → Apart r (.slice ka kn kc) us → Apart r kv' us') := Lib.hid (fun r hr h => hap r (Nat.lt_of_lt_of_le hr (Below.size (q_step hq2 (by first | with_reducible exact J | with_reducible exact J.drew | (repeat' (first | with_reducible exact Below.refl _ _ | with_reducible assumption | with_reducible refine q_alloc ?_ _ | with_reducible refine q_drew ?_ | with_reducible refine q_drewN _ ?_ | with_reducible refine q_setCell ?_ ?_ _ | (left; simp; done) | (right; simp; done) | (right; dsimp only; omega) | (left; dsimp only; omega))))))) h); clear hap; have J5 : Below w2.heap.size w2 w5 := q_step (by first | with_reducible exact J | with_reducible exact J.drew | (repeat' (first | with_reducible exact Below.refl _ _ | with_reducible assumption | with_reducible refine q_alloc ?_ _ | with_reducible refine q_drew ?_ | with_reducible refine q_drewN _ ?_ | with_reducible refine q_setCell ?_ ?_ _ | (left; simp; done) | (right; simp; done) | (right; dsimp only; omega) | (left; dsimp only; omega)))) hb; replace J := J5; obtain ⟨ka', kc', rfl, _⟩ := isI_form hi5; have HI5 := Lib.hid hi5; have b3 := HB3.out.below J; have e0 := b3.cell 0 rfl; have e1 := b3.cell 1 rfl; have e2 := b3.cell 2 rfl; have f0 := b3.froz 0 rfl; have f1 := b3.froz 1 rfl; have f2 := b3.froz 2 rfl; have z3' := b3.lt; have HB5 := Lib.hid b3; clear J5 hb hi5 b3))
    all_goals (go_wp2_with fail; go_meet; exact ⟨rfl, ka', _, kc', ((HB5.out.set 0 _ (by simp) rfl).set 1 _ (by simp) rfl).set 2 _ (by simp) rfl, ((HI5.out.setA HAP.out 0 _).setA HAP.out 1 _).setA HAP.out 2 _, HAQ, q_setCell (q_setCell (q_setCell (q_step hq2 J) (Or.inr (by dsimp only; omega)) _) (Or.inr (by dsimp only; omega)) _) (Or.inr (by dsimp only; omega)) _⟩)
  case rest =>
    obtain ⟨rfl, ka', n', kc', b9, i9, HA9, hq9⟩ := hcut
    obtain ⟨W9, rfl⟩ : ∃ W : World, W = wc := ⟨_, rfl⟩
    clear d0 d1 d2 p0 p1 p2 p3 e0 e1 e2 f0 f1 f2
    have e0 := b9.cell 0 rfl
    have e1 := b9.cell 1 rfl
    have e2 := b9.cell 2 rfl
    go_wp2_with fail
    exact bodyPost_ret (v := .tuple #[tV s' t' (.slice ka' n' kc'), i6 E]) (by simp [results, Try.results19, go_sem, e0, e1, e2]) rfl ⟨_, rfl, i9, HA9.out, hq9⟩
set_option maxRecDepth 100000 in
set_option maxHeartbeats 4000000 in
theorem got_announced (s tt : Int) (kv : Value) (us : List Int) (a : Bool) (t : Int) (pv : Value) (l : Bool) (ds : List Int) (w : World) (hk : IsI w kv us) (hp : IsI w pv ds) (h1 : us.length ≤ 1000000) (h2 : ds.length ≤ 1000000) (hZ : kindZ a t ds.length l (numsB ds) = 1) (hs2 : (s == 2) = false) (hs3 : (s == 3) = false) :
    Calls Try.prog 19 #[tV s tt kv, pV a t pv l] w (GotIs kv us (waysF 1 s tt us t ds) w) := by
  obtain ⟨E, s', t', us', hF⟩ : ∃ E s' t' us', waysF 1 s tt us t ds = (E, s', t', us') := ⟨_, _, _, _, rfl⟩
  rw [hF]
  have HF := Lib.hid hF
  clear hF
  have hix := ix1
  have hfx := fx1
  have HUL := Lib.hid h1
  have HDL := Lib.hid h2
  obtain ⟨ka, kc, rfl, _⟩ := isI_form hk
  obtain ⟨pa, pc, rfl, _⟩ := isI_form hp
  have HK := Lib.hid hk
  have HP := Lib.hid hp
  obtain ⟨kn, hkn⟩ : ∃ kn, us.length = kn := ⟨_, rfl⟩
  rw [hkn] at HK h1 ⊢
  have HKN := Lib.hid hkn
  obtain ⟨pn, hpn⟩ : ∃ pn, ds.length = pn := ⟨_, rfl⟩
  rw [hpn] at HP h2 hZ ⊢
  have HPN := Lib.hid hpn
  have HZ := Lib.hid hZ
  clear hk hp hkn hpn hZ
  go_enter Try.func19, Try.ntmps19
  go_wp2_with fail
  refine calls_world (fun W => Below w.heap.size w W ∧ Blk W w.heap.size [i6 s, i6 tt, .slice ka kn kc] ∧ Blk W (w.heap.size + 1) [.bool a, i6 t, .slice pa pn pc, .bool l] ∧ Blk W (w.heap.size + 1 + 1) [i6 0, i6 0, .slice none 0 0]) ⟨by (repeat' (first | with_reducible exact Below.refl _ _ | with_reducible assumption | with_reducible refine q_alloc ?_ _ | with_reducible refine q_drew ?_ | with_reducible refine q_drewN _ ?_ | with_reducible refine q_setCell ?_ ?_ _ | (left; simp; done) | (right; simp; done) | (right; dsimp only; omega) | (left; dsimp only; omega))), ((Blk.new rfl).alloc _).alloc _, (blk_new1 rfl).alloc _, blk_new2 rfl⟩ ?_
  intro W1 ⟨hq1, b1, b2, b3⟩
  refine (kind_any a t (.slice pa pn pc) l ds _ (HP.out.below hq1) (by rw [HPN.out]; exact h2)).mono ?_
  rintro e w2 ⟨rfl, hb⟩
  rw [HPN.out, HZ.out]
  have hq2 := q_step hq1 hb
  replace b1 := b1.below hb
  replace b2 := b2.below hb
  replace b3 := b3.below hb
  clear hb hq1
  have d0 := b1.cell 0 rfl
  have d1 := b1.cell 1 rfl
  have d2 := b1.cell 2 rfl
  have p0 := b2.cell 0 rfl
  have p1 := b2.cell 1 rfl
  have p2 := b2.cell 2 rfl
  have p3 := b2.cell 3 rfl
  have e0 := b3.cell 0 rfl
  have e1 := b3.cell 1 rfl
  have e2 := b3.cell 2 rfl
  have f0 := b3.froz 0 rfl
  have f1 := b3.froz 1 rfl
  have f2 := b3.froz 2 rfl
  have z3 := b3.lt
  have HB3 := Lib.hid b3
  clear b1 b2 b3
  generalize hRL : rulesL.toArray = RL at hix
  have HRL := Lib.hid hRL
  clear hRL
  go_upto_region 6 with fail
  go_cut [5] from 23 (fun q wx => q = i6 E ∧ ∃ ka' n' kc', Blk wx (w.heap.size + 1 + 1) [i6 s', i6 t', (.slice ka' n' kc')] ∧ IsI wx (.slice ka' n' kc') us' ∧ Hid (∀ r, r < w.heap.size → Apart r (.slice ka kn kc) us → Apart r (.slice ka' n' kc') us') ∧ Below w.heap.size w wx)
  case first =>
    have J : Below w2.heap.size w2 w2 := Below.refl _ _
    have D0 := stick d0
    have D1 := stick d1
    have D2 := stick d2
    have P0 := stick p0
    have P1 := stick p1
    have P2 := stick p2
    have P3 := stick p3
    clear d0 d1 d2 p0 p1 p2 p3 e0 e1 e2 f0 f1 f2
    have K1 : ∀ w', Below w2.heap.size w2 w' → w'.cell? ⟨w.heap.size, 0, none⟩ = some (i6 s) ∧ w'.cell? ⟨w.heap.size, 1, none⟩ = some (i6 tt) ∧ w'.cell? ⟨w.heap.size, 2, none⟩ = some (.slice ka kn kc) ∧ w'.cell? ⟨w.heap.size + 1, 0, none⟩ = some (.bool a) ∧ w'.cell? ⟨w.heap.size + 1, 1, none⟩ = some (i6 t) ∧ w'.cell? ⟨w.heap.size + 1, 2, none⟩ = some (.slice pa pn pc) ∧ w'.cell? ⟨w.heap.size + 1, 3, none⟩ = some (.bool l) := fun w' h => ⟨D0 _ h, D1 _ h, D2 _ h, P0 _ h, P1 _ h, P2 _ h, P3 _ h⟩
    have K2 : ∀ (W : World) (u v x : Value), Below w2.heap.size w2 W → (fun w' => w'.cell? ⟨w.heap.size, 0, none⟩ = some (i6 s) ∧ w'.cell? ⟨w.heap.size, 1, none⟩ = some (i6 tt) ∧ w'.cell? ⟨w.heap.size, 2, none⟩ = some (.slice ka kn kc) ∧ w'.cell? ⟨w.heap.size + 1, 0, none⟩ = some (.bool a) ∧ w'.cell? ⟨w.heap.size + 1, 1, none⟩ = some (i6 t) ∧ w'.cell? ⟨w.heap.size + 1, 2, none⟩ = some (.slice pa pn pc) ∧ w'.cell? ⟨w.heap.size + 1, 3, none⟩ = some (.bool l)) (((W.setCell ⟨w.heap.size + 1 + 1, 0, none⟩ u).setCell ⟨w.heap.size + 1 + 1, 1, none⟩ v).setCell ⟨w.heap.size + 1 + 1, 2, none⟩ x) := by
      intro W u v x h
      have far : ∀ (V : World) (o b j : Nat) (y z : Value), b ≠ w.heap.size + 1 + 1 → V.cell? ⟨b, j, none⟩ = some y → (V.setCell ⟨w.heap.size + 1 + 1, o, none⟩ z).cell? ⟨b, j, none⟩ = some y := fun V o b j y z hb hy => set_far hy (by intro e; apply hb; injection e with e1; first | exact e1.symm | exact e1)
      exact ⟨far _ _ _ _ _ _ (by omega) (far _ _ _ _ _ _ (by omega) (far _ _ _ _ _ _ (by omega) (D0 _ h))), far _ _ _ _ _ _ (by omega) (far _ _ _ _ _ _ (by omega) (far _ _ _ _ _ _ (by omega) (D1 _ h))), far _ _ _ _ _ _ (by omega) (far _ _ _ _ _ _ (by omega) (far _ _ _ _ _ _ (by omega) (D2 _ h))), far _ _ _ _ _ _ (by omega) (far _ _ _ _ _ _ (by omega) (far _ _ _ _ _ _ (by omega) (P0 _ h))), far _ _ _ _ _ _ (by omega) (far _ _ _ _ _ _ (by omega) (far _ _ _ _ _ _ (by omega) (P1 _ h))), far _ _ _ _ _ _ (by omega) (far _ _ _ _ _ _ (by omega) (far _ _ _ _ _ _ (by omega) (P2 _ h))), far _ _ _ _ _ _ (by omega) (far _ _ _ _ _ _ (by omega) (far _ _ _ _ _ _ (by omega) (P3 _ h)))⟩
    have HK1 := Lib.hid K1
    have HK2 := Lib.hid K2
    clear K1 K2 D0 D1 D2 P0 P1 P2 P3
    go_region_held3 (fun w' => w'.cell? ⟨w.heap.size, 0, none⟩ = some (i6 s) ∧ w'.cell? ⟨w.heap.size, 1, none⟩ = some (i6 tt) ∧ w'.cell? ⟨w.heap.size, 2, none⟩ = some (.slice ka kn kc) ∧ w'.cell? ⟨w.heap.size + 1, 0, none⟩ = some (.bool a) ∧ w'.cell? ⟨w.heap.size + 1, 1, none⟩ = some (i6 t) ∧ w'.cell? ⟨w.heap.size + 1, 2, none⟩ = some (.slice pa pn pc) ∧ w'.cell? ⟨w.heap.size + 1, 3, none⟩ = some (.bool l))
      (first | exact HK1.out _ (by first | with_reducible exact J | with_reducible exact J.drew | with_reducible exact Below.refl _ _ | with_reducible exact (Below.refl _ _).drew) | exact HK2.out _ _ _ _ (by first | with_reducible exact J | with_reducible exact J.drew))
      (first
        | (go_at_call 31; refine (rules_any _).mono ?_; rintro e w5 ⟨rfl, hb⟩; rw [HRL.out]; have J5 : Below w2.heap.size w2 w5 := q_step (by first | with_reducible exact J | with_reducible exact J.drew | (repeat' (first | with_reducible exact Below.refl _ _ | with_reducible assumption | with_reducible refine q_alloc ?_ _ | with_reducible refine q_drew ?_ | with_reducible refine q_drewN _ ?_ | with_reducible refine q_setCell ?_ ?_ _ | (left; simp; done) | (right; simp; done) | (right; dsimp only; omega) | (left; dsimp only; omega)))) hb; replace J := J5; clear J5 hb)
        | (go_at_call 38; refine (announced_any s tt (.slice ka kn kc) us a t (.slice pa pn pc) l ds _ (HK.out.below (q_step hq2 (by first | with_reducible exact J | with_reducible exact J.drew | (repeat' (first | with_reducible exact Below.refl _ _ | with_reducible assumption | with_reducible refine q_alloc ?_ _ | with_reducible refine q_drew ?_ | with_reducible refine q_drewN _ ?_ | with_reducible refine q_setCell ?_ ?_ _ | (left; simp; done) | (right; simp; done) | (right; dsimp only; omega) | (left; dsimp only; omega)))))) (HP.out.below (q_step hq2 (by first | with_reducible exact J | with_reducible exact J.drew | (repeat' (first | with_reducible exact Below.refl _ _ | with_reducible assumption | with_reducible refine q_alloc ?_ _ | with_reducible refine q_drew ?_ | with_reducible refine q_drewN _ ?_ | with_reducible refine q_setCell ?_ ?_ _ | (left; simp; done) | (right; simp; done) | (right; dsimp only; omega) | (left; dsimp only; omega)))))) HUL.out HDL.out).mono ?_; rw [HF.out]; rintro e w5 ⟨kv', rfl, hi5, hap, hb⟩; have HAP := Lib.hid (hap (w.heap.size + 1 + 1) (Nat.lt_of_lt_of_le z3 (Below.size (by first | with_reducible exact J | with_reducible exact J.drew | (repeat' (first | with_reducible exact Below.refl _ _ | with_reducible assumption | with_reducible refine q_alloc ?_ _ | with_reducible refine q_drew ?_ | with_reducible refine q_drewN _ ?_ | with_reducible refine q_setCell ?_ ?_ _ | (left; simp; done) | (right; simp; done) | (right; dsimp only; omega) | (left; dsimp only; omega)))))) (apart_old HK.out (by omega))); have HAQ : Hid (∀ r, r < w.heap.size → Apart r (.slice ka kn kc) us → Apart r kv' us') := Lib.hid (fun r hr h => hap r (Nat.lt_of_lt_of_le hr (Below.size (q_step hq2 (by first | with_reducible exact J | with_reducible exact J.drew | (repeat' (first | with_reducible exact Below.refl _ _ | with_reducible assumption | with_reducible refine q_alloc ?_ _ | with_reducible refine q_drew ?_ | with_reducible refine q_drewN _ ?_ | with_reducible refine q_setCell ?_ ?_ _ | (left; simp; done) | (right; simp; done) | (right; dsimp only; omega) | (left; dsimp only; omega))))))) h); clear hap; have J5 : Below w2.heap.size w2 w5 := q_step (by first | with_reducible exact J | with_reducible exact J.drew | (repeat' (first | with_reducible exact Below.refl _ _ | with_reducible assumption | with_reducible refine q_alloc ?_ _ | with_reducible refine q_drew ?_ | with_reducible refine q_drewN _ ?_ | with_reducible refine q_setCell ?_ ?_ _ | (left; simp; done) | (right; simp; done) | (right; dsimp only; omega) | (left; dsimp only; omega)))) hb; replace J := J5; obtain ⟨ka', kc', rfl, _⟩ := isI_form hi5; have HI5 := Lib.hid hi5; have b3 := HB3.out.below J; have e0 := b3.cell 0 rfl; have e1 := b3.cell 1 rfl; have e2 := b3.cell 2 rfl; have f0 := b3.froz 0 rfl; have f1 := b3.froz 1 rfl; have f2 := b3.froz 2 rfl; have z3' := b3.lt; have HB5 := Lib.hid b3; clear J5 hb hi5 b3))
    all_goals (go_wp2_with fail; go_meet; exact ⟨rfl, ka', _, kc', ((HB5.out.set 0 _ (by simp) rfl).set 1 _ (by simp) rfl).set 2 _ (by simp) rfl, ((HI5.out.setA HAP.out 0 _).setA HAP.out 1 _).setA HAP.out 2 _, HAQ, q_setCell (q_setCell (q_setCell (q_step hq2 J) (Or.inr (by dsimp only; omega)) _) (Or.inr (by dsimp only; omega)) _) (Or.inr (by dsimp only; omega)) _⟩)
  case rest =>
    obtain ⟨rfl, ka', n', kc', b9, i9, HA9, hq9⟩ := hcut
    obtain ⟨W9, rfl⟩ : ∃ W : World, W = wc := ⟨_, rfl⟩
    clear d0 d1 d2 p0 p1 p2 p3 e0 e1 e2 f0 f1 f2
    have e0 := b9.cell 0 rfl
    have e1 := b9.cell 1 rfl
    have e2 := b9.cell 2 rfl
    go_wp2_with fail
    exact bodyPost_ret (v := .tuple #[tV s' t' (.slice ka' n' kc'), i6 E]) (by simp [results, Try.results19, go_sem, e0, e1, e2]) rfl ⟨_, rfl, i9, HA9.out, hq9⟩
set_option maxRecDepth 100000 in
set_option maxHeartbeats 4000000 in
theorem got_part (s tt : Int) (kv : Value) (us : List Int) (a : Bool) (t : Int) (pv : Value) (l : Bool) (ds : List Int) (w : World) (hk : IsI w kv us) (hp : IsI w pv ds) (h1 : us.length ≤ 1000000) (h2 : ds.length ≤ 1000000) (h0 : 0 < ds.length) (hZ : kindZ a t ds.length l (numsB ds) = 2) (hs2 : (s == 2) = false) (hs3 : (s == 3) = false) :
    Calls Try.prog 19 #[tV s tt kv, pV a t pv l] w (GotIs kv us (waysF 2 s tt us t ds) w) := by
  obtain ⟨E, s', t', us', hF⟩ : ∃ E s' t' us', waysF 2 s tt us t ds = (E, s', t', us') := ⟨_, _, _, _, rfl⟩
  rw [hF]
  have HF := Lib.hid hF
  clear hF
  have H0 := Lib.hid h0
  clear h0
  have hix := ix2
  have hfx := fx2
  have HUL := Lib.hid h1
  have HDL := Lib.hid h2
  obtain ⟨ka, kc, rfl, _⟩ := isI_form hk
  obtain ⟨pa, pc, rfl, _⟩ := isI_form hp
  have HK := Lib.hid hk
  have HP := Lib.hid hp
  obtain ⟨kn, hkn⟩ : ∃ kn, us.length = kn := ⟨_, rfl⟩
  rw [hkn] at HK h1 ⊢
  have HKN := Lib.hid hkn
  obtain ⟨pn, hpn⟩ : ∃ pn, ds.length = pn := ⟨_, rfl⟩
  rw [hpn] at HP h2 hZ ⊢
  have HPN := Lib.hid hpn
  have HZ := Lib.hid hZ
  clear hk hp hkn hpn hZ
  go_enter Try.func19, Try.ntmps19
  go_wp2_with fail
  refine calls_world (fun W => Below w.heap.size w W ∧ Blk W w.heap.size [i6 s, i6 tt, .slice ka kn kc] ∧ Blk W (w.heap.size + 1) [.bool a, i6 t, .slice pa pn pc, .bool l] ∧ Blk W (w.heap.size + 1 + 1) [i6 0, i6 0, .slice none 0 0]) ⟨by (repeat' (first | with_reducible exact Below.refl _ _ | with_reducible assumption | with_reducible refine q_alloc ?_ _ | with_reducible refine q_drew ?_ | with_reducible refine q_drewN _ ?_ | with_reducible refine q_setCell ?_ ?_ _ | (left; simp; done) | (right; simp; done) | (right; dsimp only; omega) | (left; dsimp only; omega))), ((Blk.new rfl).alloc _).alloc _, (blk_new1 rfl).alloc _, blk_new2 rfl⟩ ?_
  intro W1 ⟨hq1, b1, b2, b3⟩
  refine (kind_any a t (.slice pa pn pc) l ds _ (HP.out.below hq1) (by rw [HPN.out]; exact h2)).mono ?_
  rintro e w2 ⟨rfl, hb⟩
  rw [HPN.out, HZ.out]
  have hq2 := q_step hq1 hb
  replace b1 := b1.below hb
  replace b2 := b2.below hb
  replace b3 := b3.below hb
  clear hb hq1
  have d0 := b1.cell 0 rfl
  have d1 := b1.cell 1 rfl
  have d2 := b1.cell 2 rfl
  have p0 := b2.cell 0 rfl
  have p1 := b2.cell 1 rfl
  have p2 := b2.cell 2 rfl
  have p3 := b2.cell 3 rfl
  have e0 := b3.cell 0 rfl
  have e1 := b3.cell 1 rfl
  have e2 := b3.cell 2 rfl
  have f0 := b3.froz 0 rfl
  have f1 := b3.froz 1 rfl
  have f2 := b3.froz 2 rfl
  have z3 := b3.lt
  have HB3 := Lib.hid b3
  clear b1 b2 b3
  generalize hRL : rulesL.toArray = RL at hix
  have HRL := Lib.hid hRL
  clear hRL
  go_upto_region 6 with fail
  go_cut [5] from 23 (fun q wx => q = i6 E ∧ ∃ ka' n' kc', Blk wx (w.heap.size + 1 + 1) [i6 s', i6 t', (.slice ka' n' kc')] ∧ IsI wx (.slice ka' n' kc') us' ∧ Hid (∀ r, r < w.heap.size → Apart r (.slice ka kn kc) us → Apart r (.slice ka' n' kc') us') ∧ Below w.heap.size w wx)
  case first =>
    have J : Below w2.heap.size w2 w2 := Below.refl _ _
    have D0 := stick d0
    have D1 := stick d1
    have D2 := stick d2
    have P0 := stick p0
    have P1 := stick p1
    have P2 := stick p2
    have P3 := stick p3
    clear d0 d1 d2 p0 p1 p2 p3 e0 e1 e2 f0 f1 f2
    have K1 : ∀ w', Below w2.heap.size w2 w' → w'.cell? ⟨w.heap.size, 0, none⟩ = some (i6 s) ∧ w'.cell? ⟨w.heap.size, 1, none⟩ = some (i6 tt) ∧ w'.cell? ⟨w.heap.size, 2, none⟩ = some (.slice ka kn kc) ∧ w'.cell? ⟨w.heap.size + 1, 0, none⟩ = some (.bool a) ∧ w'.cell? ⟨w.heap.size + 1, 1, none⟩ = some (i6 t) ∧ w'.cell? ⟨w.heap.size + 1, 2, none⟩ = some (.slice pa pn pc) ∧ w'.cell? ⟨w.heap.size + 1, 3, none⟩ = some (.bool l) := fun w' h => ⟨D0 _ h, D1 _ h, D2 _ h, P0 _ h, P1 _ h, P2 _ h, P3 _ h⟩
    have K2 : ∀ (W : World) (u v x : Value), Below w2.heap.size w2 W → (fun w' => w'.cell? ⟨w.heap.size, 0, none⟩ = some (i6 s) ∧ w'.cell? ⟨w.heap.size, 1, none⟩ = some (i6 tt) ∧ w'.cell? ⟨w.heap.size, 2, none⟩ = some (.slice ka kn kc) ∧ w'.cell? ⟨w.heap.size + 1, 0, none⟩ = some (.bool a) ∧ w'.cell? ⟨w.heap.size + 1, 1, none⟩ = some (i6 t) ∧ w'.cell? ⟨w.heap.size + 1, 2, none⟩ = some (.slice pa pn pc) ∧ w'.cell? ⟨w.heap.size + 1, 3, none⟩ = some (.bool l)) (((W.setCell ⟨w.heap.size + 1 + 1, 0, none⟩ u).setCell ⟨w.heap.size + 1 + 1, 1, none⟩ v).setCell ⟨w.heap.size + 1 + 1, 2, none⟩ x) := by
      intro W u v x h
      have far : ∀ (V : World) (o b j : Nat) (y z : Value), b ≠ w.heap.size + 1 + 1 → V.cell? ⟨b, j, none⟩ = some y → (V.setCell ⟨w.heap.size + 1 + 1, o, none⟩ z).cell? ⟨b, j, none⟩ = some y := fun V o b j y z hb hy => set_far hy (by intro e; apply hb; injection e with e1; first | exact e1.symm | exact e1)
      exact ⟨far _ _ _ _ _ _ (by omega) (far _ _ _ _ _ _ (by omega) (far _ _ _ _ _ _ (by omega) (D0 _ h))), far _ _ _ _ _ _ (by omega) (far _ _ _ _ _ _ (by omega) (far _ _ _ _ _ _ (by omega) (D1 _ h))), far _ _ _ _ _ _ (by omega) (far _ _ _ _ _ _ (by omega) (far _ _ _ _ _ _ (by omega) (D2 _ h))), far _ _ _ _ _ _ (by omega) (far _ _ _ _ _ _ (by omega) (far _ _ _ _ _ _ (by omega) (P0 _ h))), far _ _ _ _ _ _ (by omega) (far _ _ _ _ _ _ (by omega) (far _ _ _ _ _ _ (by omega) (P1 _ h))), far _ _ _ _ _ _ (by omega) (far _ _ _ _ _ _ (by omega) (far _ _ _ _ _ _ (by omega) (P2 _ h))), far _ _ _ _ _ _ (by omega) (far _ _ _ _ _ _ (by omega) (far _ _ _ _ _ _ (by omega) (P3 _ h)))⟩
    have HK1 := Lib.hid K1
    have HK2 := Lib.hid K2
    clear K1 K2 D0 D1 D2 P0 P1 P2 P3
    go_region_held3 (fun w' => w'.cell? ⟨w.heap.size, 0, none⟩ = some (i6 s) ∧ w'.cell? ⟨w.heap.size, 1, none⟩ = some (i6 tt) ∧ w'.cell? ⟨w.heap.size, 2, none⟩ = some (.slice ka kn kc) ∧ w'.cell? ⟨w.heap.size + 1, 0, none⟩ = some (.bool a) ∧ w'.cell? ⟨w.heap.size + 1, 1, none⟩ = some (i6 t) ∧ w'.cell? ⟨w.heap.size + 1, 2, none⟩ = some (.slice pa pn pc) ∧ w'.cell? ⟨w.heap.size + 1, 3, none⟩ = some (.bool l))
      (first | exact HK1.out _ (by first | with_reducible exact J | with_reducible exact J.drew | with_reducible exact Below.refl _ _ | with_reducible exact (Below.refl _ _).drew) | exact HK2.out _ _ _ _ (by first | with_reducible exact J | with_reducible exact J.drew))
      (first
        | (go_at_call 31; refine (rules_any _).mono ?_; rintro e w5 ⟨rfl, hb⟩; rw [HRL.out]; have J5 : Below w2.heap.size w2 w5 := q_step (by first | with_reducible exact J | with_reducible exact J.drew | (repeat' (first | with_reducible exact Below.refl _ _ | with_reducible assumption | with_reducible refine q_alloc ?_ _ | with_reducible refine q_drew ?_ | with_reducible refine q_drewN _ ?_ | with_reducible refine q_setCell ?_ ?_ _ | (left; simp; done) | (right; simp; done) | (right; dsimp only; omega) | (left; dsimp only; omega)))) hb; replace J := J5; clear J5 hb)
        | (go_at_call 40; refine (part_any s tt (.slice ka kn kc) us a t (.slice pa pn pc) l ds _ (HK.out.below (q_step hq2 (by first | with_reducible exact J | with_reducible exact J.drew | (repeat' (first | with_reducible exact Below.refl _ _ | with_reducible assumption | with_reducible refine q_alloc ?_ _ | with_reducible refine q_drew ?_ | with_reducible refine q_drewN _ ?_ | with_reducible refine q_setCell ?_ ?_ _ | (left; simp; done) | (right; simp; done) | (right; dsimp only; omega) | (left; dsimp only; omega)))))) (HP.out.below (q_step hq2 (by first | with_reducible exact J | with_reducible exact J.drew | (repeat' (first | with_reducible exact Below.refl _ _ | with_reducible assumption | with_reducible refine q_alloc ?_ _ | with_reducible refine q_drew ?_ | with_reducible refine q_drewN _ ?_ | with_reducible refine q_setCell ?_ ?_ _ | (left; simp; done) | (right; simp; done) | (right; dsimp only; omega) | (left; dsimp only; omega)))))) HUL.out HDL.out H0.out).mono ?_; rw [HF.out]; rintro e w5 ⟨kv', rfl, hi5, hap, hb⟩; have HAP := Lib.hid (hap (w.heap.size + 1 + 1) (Nat.lt_of_lt_of_le z3 (Below.size (by first | with_reducible exact J | with_reducible exact J.drew | (repeat' (first | with_reducible exact Below.refl _ _ | with_reducible assumption | with_reducible refine q_alloc ?_ _ | with_reducible refine q_drew ?_ | with_reducible refine q_drewN _ ?_ | with_reducible refine q_setCell ?_ ?_ _ | (left; simp; done) | (right; simp; done) | (right; dsimp only; omega) | (left; dsimp only; omega)))))) (apart_old HK.out (by omega))); have HAQ : Hid (∀ r, r < w.heap.size → Apart r (.slice ka kn kc) us → Apart r kv' us') := Lib.hid (fun r hr h => hap r (Nat.lt_of_lt_of_le hr (Below.size (q_step hq2 (by first | with_reducible exact J | with_reducible exact J.drew | (repeat' (first | with_reducible exact Below.refl _ _ | with_reducible assumption | with_reducible refine q_alloc ?_ _ | with_reducible refine q_drew ?_ | with_reducible refine q_drewN _ ?_ | with_reducible refine q_setCell ?_ ?_ _ | (left; simp; done) | (right; simp; done) | (right; dsimp only; omega) | (left; dsimp only; omega))))))) h); clear hap; have J5 : Below w2.heap.size w2 w5 := q_step (by first | with_reducible exact J | with_reducible exact J.drew | (repeat' (first | with_reducible exact Below.refl _ _ | with_reducible assumption | with_reducible refine q_alloc ?_ _ | with_reducible refine q_drew ?_ | with_reducible refine q_drewN _ ?_ | with_reducible refine q_setCell ?_ ?_ _ | (left; simp; done) | (right; simp; done) | (right; dsimp only; omega) | (left; dsimp only; omega)))) hb; replace J := J5; obtain ⟨ka', kc', rfl, _⟩ := isI_form hi5; have HI5 := Lib.hid hi5; have b3 := HB3.out.below J; have e0 := b3.cell 0 rfl; have e1 := b3.cell 1 rfl; have e2 := b3.cell 2 rfl; have f0 := b3.froz 0 rfl; have f1 := b3.froz 1 rfl; have f2 := b3.froz 2 rfl; have z3' := b3.lt; have HB5 := Lib.hid b3; clear J5 hb hi5 b3))
    all_goals (go_wp2_with fail; go_meet; exact ⟨rfl, ka', _, kc', ((HB5.out.set 0 _ (by simp) rfl).set 1 _ (by simp) rfl).set 2 _ (by simp) rfl, ((HI5.out.setA HAP.out 0 _).setA HAP.out 1 _).setA HAP.out 2 _, HAQ, q_setCell (q_setCell (q_setCell (q_step hq2 J) (Or.inr (by dsimp only; omega)) _) (Or.inr (by dsimp only; omega)) _) (Or.inr (by dsimp only; omega)) _⟩)
  case rest =>
    obtain ⟨rfl, ka', n', kc', b9, i9, HA9, hq9⟩ := hcut
    obtain ⟨W9, rfl⟩ : ∃ W : World, W = wc := ⟨_, rfl⟩
    clear d0 d1 d2 p0 p1 p2 p3 e0 e1 e2 f0 f1 f2
    have e0 := b9.cell 0 rfl
    have e1 := b9.cell 1 rfl
    have e2 := b9.cell 2 rfl
    go_wp2_with fail
    exact bodyPost_ret (v := .tuple #[tV s' t' (.slice ka' n' kc'), i6 E]) (by simp [results, Try.results19, go_sem, e0, e1, e2]) rfl ⟨_, rfl, i9, HA9.out, hq9⟩
set_option maxRecDepth 100000 in
set_option maxHeartbeats 4000000 in
theorem got_end (s tt : Int) (kv : Value) (us : List Int) (a : Bool) (t : Int) (pv : Value) (l : Bool) (ds : List Int) (w : World) (hk : IsI w kv us) (hp : IsI w pv ds) (h1 : us.length ≤ 1000000) (h2 : ds.length ≤ 1000000) (hZ : kindZ a t ds.length l (numsB ds) = 3) (hs2 : (s == 2) = false) (hs3 : (s == 3) = false) :
    Calls Try.prog 19 #[tV s tt kv, pV a t pv l] w (GotIs kv us (waysF 3 s tt us t ds) w) := by
  obtain ⟨E, s', t', us', hF⟩ : ∃ E s' t' us', waysF 3 s tt us t ds = (E, s', t', us') := ⟨_, _, _, _, rfl⟩
  rw [hF]
  have HF := Lib.hid hF
  clear hF
  have hix := ix3
  have hfx := fx3
  have HUL := Lib.hid h1
  have HDL := Lib.hid h2
  obtain ⟨ka, kc, rfl, _⟩ := isI_form hk
  obtain ⟨pa, pc, rfl, _⟩ := isI_form hp
  have HK := Lib.hid hk
  have HP := Lib.hid hp
  obtain ⟨kn, hkn⟩ : ∃ kn, us.length = kn := ⟨_, rfl⟩
  rw [hkn] at HK h1 ⊢
  have HKN := Lib.hid hkn
  obtain ⟨pn, hpn⟩ : ∃ pn, ds.length = pn := ⟨_, rfl⟩
  rw [hpn] at HP h2 hZ ⊢
  have HPN := Lib.hid hpn
  have HZ := Lib.hid hZ
  clear hk hp hkn hpn hZ
  go_enter Try.func19, Try.ntmps19
  go_wp2_with fail
  refine calls_world (fun W => Below w.heap.size w W ∧ Blk W w.heap.size [i6 s, i6 tt, .slice ka kn kc] ∧ Blk W (w.heap.size + 1) [.bool a, i6 t, .slice pa pn pc, .bool l] ∧ Blk W (w.heap.size + 1 + 1) [i6 0, i6 0, .slice none 0 0]) ⟨by (repeat' (first | with_reducible exact Below.refl _ _ | with_reducible assumption | with_reducible refine q_alloc ?_ _ | with_reducible refine q_drew ?_ | with_reducible refine q_drewN _ ?_ | with_reducible refine q_setCell ?_ ?_ _ | (left; simp; done) | (right; simp; done) | (right; dsimp only; omega) | (left; dsimp only; omega))), ((Blk.new rfl).alloc _).alloc _, (blk_new1 rfl).alloc _, blk_new2 rfl⟩ ?_
  intro W1 ⟨hq1, b1, b2, b3⟩
  refine (kind_any a t (.slice pa pn pc) l ds _ (HP.out.below hq1) (by rw [HPN.out]; exact h2)).mono ?_
  rintro e w2 ⟨rfl, hb⟩
  rw [HPN.out, HZ.out]
  have hq2 := q_step hq1 hb
  replace b1 := b1.below hb
  replace b2 := b2.below hb
  replace b3 := b3.below hb
  clear hb hq1
  have d0 := b1.cell 0 rfl
  have d1 := b1.cell 1 rfl
  have d2 := b1.cell 2 rfl
  have p0 := b2.cell 0 rfl
  have p1 := b2.cell 1 rfl
  have p2 := b2.cell 2 rfl
  have p3 := b2.cell 3 rfl
  have e0 := b3.cell 0 rfl
  have e1 := b3.cell 1 rfl
  have e2 := b3.cell 2 rfl
  have f0 := b3.froz 0 rfl
  have f1 := b3.froz 1 rfl
  have f2 := b3.froz 2 rfl
  have z3 := b3.lt
  have HB3 := Lib.hid b3
  clear b1 b2 b3
  generalize hRL : rulesL.toArray = RL at hix
  have HRL := Lib.hid hRL
  clear hRL
  go_upto_region 6 with fail
  go_cut [5] from 23 (fun q wx => q = i6 E ∧ ∃ ka' n' kc', Blk wx (w.heap.size + 1 + 1) [i6 s', i6 t', (.slice ka' n' kc')] ∧ IsI wx (.slice ka' n' kc') us' ∧ Hid (∀ r, r < w.heap.size → Apart r (.slice ka kn kc) us → Apart r (.slice ka' n' kc') us') ∧ Below w.heap.size w wx)
  case first =>
    have J : Below w2.heap.size w2 w2 := Below.refl _ _
    have D0 := stick d0
    have D1 := stick d1
    have D2 := stick d2
    have P0 := stick p0
    have P1 := stick p1
    have P2 := stick p2
    have P3 := stick p3
    clear d0 d1 d2 p0 p1 p2 p3 e0 e1 e2 f0 f1 f2
    have K1 : ∀ w', Below w2.heap.size w2 w' → w'.cell? ⟨w.heap.size, 0, none⟩ = some (i6 s) ∧ w'.cell? ⟨w.heap.size, 1, none⟩ = some (i6 tt) ∧ w'.cell? ⟨w.heap.size, 2, none⟩ = some (.slice ka kn kc) ∧ w'.cell? ⟨w.heap.size + 1, 0, none⟩ = some (.bool a) ∧ w'.cell? ⟨w.heap.size + 1, 1, none⟩ = some (i6 t) ∧ w'.cell? ⟨w.heap.size + 1, 2, none⟩ = some (.slice pa pn pc) ∧ w'.cell? ⟨w.heap.size + 1, 3, none⟩ = some (.bool l) := fun w' h => ⟨D0 _ h, D1 _ h, D2 _ h, P0 _ h, P1 _ h, P2 _ h, P3 _ h⟩
    have K2 : ∀ (W : World) (u v x : Value), Below w2.heap.size w2 W → (fun w' => w'.cell? ⟨w.heap.size, 0, none⟩ = some (i6 s) ∧ w'.cell? ⟨w.heap.size, 1, none⟩ = some (i6 tt) ∧ w'.cell? ⟨w.heap.size, 2, none⟩ = some (.slice ka kn kc) ∧ w'.cell? ⟨w.heap.size + 1, 0, none⟩ = some (.bool a) ∧ w'.cell? ⟨w.heap.size + 1, 1, none⟩ = some (i6 t) ∧ w'.cell? ⟨w.heap.size + 1, 2, none⟩ = some (.slice pa pn pc) ∧ w'.cell? ⟨w.heap.size + 1, 3, none⟩ = some (.bool l)) (((W.setCell ⟨w.heap.size + 1 + 1, 0, none⟩ u).setCell ⟨w.heap.size + 1 + 1, 1, none⟩ v).setCell ⟨w.heap.size + 1 + 1, 2, none⟩ x) := by
      intro W u v x h
      have far : ∀ (V : World) (o b j : Nat) (y z : Value), b ≠ w.heap.size + 1 + 1 → V.cell? ⟨b, j, none⟩ = some y → (V.setCell ⟨w.heap.size + 1 + 1, o, none⟩ z).cell? ⟨b, j, none⟩ = some y := fun V o b j y z hb hy => set_far hy (by intro e; apply hb; injection e with e1; first | exact e1.symm | exact e1)
      exact ⟨far _ _ _ _ _ _ (by omega) (far _ _ _ _ _ _ (by omega) (far _ _ _ _ _ _ (by omega) (D0 _ h))), far _ _ _ _ _ _ (by omega) (far _ _ _ _ _ _ (by omega) (far _ _ _ _ _ _ (by omega) (D1 _ h))), far _ _ _ _ _ _ (by omega) (far _ _ _ _ _ _ (by omega) (far _ _ _ _ _ _ (by omega) (D2 _ h))), far _ _ _ _ _ _ (by omega) (far _ _ _ _ _ _ (by omega) (far _ _ _ _ _ _ (by omega) (P0 _ h))), far _ _ _ _ _ _ (by omega) (far _ _ _ _ _ _ (by omega) (far _ _ _ _ _ _ (by omega) (P1 _ h))), far _ _ _ _ _ _ (by omega) (far _ _ _ _ _ _ (by omega) (far _ _ _ _ _ _ (by omega) (P2 _ h))), far _ _ _ _ _ _ (by omega) (far _ _ _ _ _ _ (by omega) (far _ _ _ _ _ _ (by omega) (P3 _ h)))⟩
    have HK1 := Lib.hid K1
    have HK2 := Lib.hid K2
    clear K1 K2 D0 D1 D2 P0 P1 P2 P3
    go_region_held3 (fun w' => w'.cell? ⟨w.heap.size, 0, none⟩ = some (i6 s) ∧ w'.cell? ⟨w.heap.size, 1, none⟩ = some (i6 tt) ∧ w'.cell? ⟨w.heap.size, 2, none⟩ = some (.slice ka kn kc) ∧ w'.cell? ⟨w.heap.size + 1, 0, none⟩ = some (.bool a) ∧ w'.cell? ⟨w.heap.size + 1, 1, none⟩ = some (i6 t) ∧ w'.cell? ⟨w.heap.size + 1, 2, none⟩ = some (.slice pa pn pc) ∧ w'.cell? ⟨w.heap.size + 1, 3, none⟩ = some (.bool l))
      (first | exact HK1.out _ (by first | with_reducible exact J | with_reducible exact J.drew | with_reducible exact Below.refl _ _ | with_reducible exact (Below.refl _ _).drew) | exact HK2.out _ _ _ _ (by first | with_reducible exact J | with_reducible exact J.drew))
      (first
        | (go_at_call 31; refine (rules_any _).mono ?_; rintro e w5 ⟨rfl, hb⟩; rw [HRL.out]; have J5 : Below w2.heap.size w2 w5 := q_step (by first | with_reducible exact J | with_reducible exact J.drew | (repeat' (first | with_reducible exact Below.refl _ _ | with_reducible assumption | with_reducible refine q_alloc ?_ _ | with_reducible refine q_drew ?_ | with_reducible refine q_drewN _ ?_ | with_reducible refine q_setCell ?_ ?_ _ | (left; simp; done) | (right; simp; done) | (right; dsimp only; omega) | (left; dsimp only; omega)))) hb; replace J := J5; clear J5 hb)
        | (go_at_call 42; refine (end_any s tt (.slice ka kn kc) us a t (.slice pa pn pc) l ds _ (HK.out.below (q_step hq2 (by first | with_reducible exact J | with_reducible exact J.drew | (repeat' (first | with_reducible exact Below.refl _ _ | with_reducible assumption | with_reducible refine q_alloc ?_ _ | with_reducible refine q_drew ?_ | with_reducible refine q_drewN _ ?_ | with_reducible refine q_setCell ?_ ?_ _ | (left; simp; done) | (right; simp; done) | (right; dsimp only; omega) | (left; dsimp only; omega)))))) (HP.out.below (q_step hq2 (by first | with_reducible exact J | with_reducible exact J.drew | (repeat' (first | with_reducible exact Below.refl _ _ | with_reducible assumption | with_reducible refine q_alloc ?_ _ | with_reducible refine q_drew ?_ | with_reducible refine q_drewN _ ?_ | with_reducible refine q_setCell ?_ ?_ _ | (left; simp; done) | (right; simp; done) | (right; dsimp only; omega) | (left; dsimp only; omega)))))) HUL.out HDL.out).mono ?_; rw [HF.out]; rintro e w5 ⟨kv', rfl, hi5, hap, hb⟩; have HAP := Lib.hid (hap (w.heap.size + 1 + 1) (Nat.lt_of_lt_of_le z3 (Below.size (by first | with_reducible exact J | with_reducible exact J.drew | (repeat' (first | with_reducible exact Below.refl _ _ | with_reducible assumption | with_reducible refine q_alloc ?_ _ | with_reducible refine q_drew ?_ | with_reducible refine q_drewN _ ?_ | with_reducible refine q_setCell ?_ ?_ _ | (left; simp; done) | (right; simp; done) | (right; dsimp only; omega) | (left; dsimp only; omega)))))) (apart_old HK.out (by omega))); have HAQ : Hid (∀ r, r < w.heap.size → Apart r (.slice ka kn kc) us → Apart r kv' us') := Lib.hid (fun r hr h => hap r (Nat.lt_of_lt_of_le hr (Below.size (q_step hq2 (by first | with_reducible exact J | with_reducible exact J.drew | (repeat' (first | with_reducible exact Below.refl _ _ | with_reducible assumption | with_reducible refine q_alloc ?_ _ | with_reducible refine q_drew ?_ | with_reducible refine q_drewN _ ?_ | with_reducible refine q_setCell ?_ ?_ _ | (left; simp; done) | (right; simp; done) | (right; dsimp only; omega) | (left; dsimp only; omega))))))) h); clear hap; have J5 : Below w2.heap.size w2 w5 := q_step (by first | with_reducible exact J | with_reducible exact J.drew | (repeat' (first | with_reducible exact Below.refl _ _ | with_reducible assumption | with_reducible refine q_alloc ?_ _ | with_reducible refine q_drew ?_ | with_reducible refine q_drewN _ ?_ | with_reducible refine q_setCell ?_ ?_ _ | (left; simp; done) | (right; simp; done) | (right; dsimp only; omega) | (left; dsimp only; omega)))) hb; replace J := J5; obtain ⟨ka', kc', rfl, _⟩ := isI_form hi5; have HI5 := Lib.hid hi5; have b3 := HB3.out.below J; have e0 := b3.cell 0 rfl; have e1 := b3.cell 1 rfl; have e2 := b3.cell 2 rfl; have f0 := b3.froz 0 rfl; have f1 := b3.froz 1 rfl; have f2 := b3.froz 2 rfl; have z3' := b3.lt; have HB5 := Lib.hid b3; clear J5 hb hi5 b3))
    all_goals (go_wp2_with fail; go_meet; exact ⟨rfl, ka', _, kc', ((HB5.out.set 0 _ (by simp) rfl).set 1 _ (by simp) rfl).set 2 _ (by simp) rfl, ((HI5.out.setA HAP.out 0 _).setA HAP.out 1 _).setA HAP.out 2 _, HAQ, q_setCell (q_setCell (q_setCell (q_step hq2 J) (Or.inr (by dsimp only; omega)) _) (Or.inr (by dsimp only; omega)) _) (Or.inr (by dsimp only; omega)) _⟩)
  case rest =>
    obtain ⟨rfl, ka', n', kc', b9, i9, HA9, hq9⟩ := hcut
    obtain ⟨W9, rfl⟩ : ∃ W : World, W = wc := ⟨_, rfl⟩
    clear d0 d1 d2 p0 p1 p2 p3 e0 e1 e2 f0 f1 f2
    have e0 := b9.cell 0 rfl
    have e1 := b9.cell 1 rfl
    have e2 := b9.cell 2 rfl
    go_wp2_with fail
    exact bodyPost_ret (v := .tuple #[tV s' t' (.slice ka' n' kc'), i6 E]) (by simp [results, Try.results19, go_sem, e0, e1, e2]) rfl ⟨_, rfl, i9, HA9.out, hq9⟩
end Go.Proofs.Ytlaejolgjchfcaa
