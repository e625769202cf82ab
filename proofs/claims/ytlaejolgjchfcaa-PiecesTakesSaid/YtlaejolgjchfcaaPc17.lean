/- Layer 42: Got of any piece; Data. -/
import Derived.Test.YtlaejolgjchfcaaPc16
import Derived.Test.YtlaejolgjchfcaaPc14
namespace Go.Proofs.Ytlaejolgjchfcaa
open Go Go.RowKit Go.Maps
set_option linter.unusedSimpArgs false
set_option linter.unusedVariables false
def gotF (Z s tt : Int) (us : List Int) (t : Int) (ds : List Int) : Int × Int × Int × List Int :=
  if Z < 0 then (2, s, tt, us) else if s = 2 ∨ s = 3 then (9, s, tt, us) else waysF Z s tt us t ds
theorem kind_two {a l ok : Bool} {t : Int} {n : Nat} (h : kindZ a t n l ok = 2) : 0 < n := by
  unfold kindZ at h
  cases a <;> cases l <;> cases ok <;> simp [r1B, r2B, r3B, r4B] at h <;> omega
theorem got_any (s tt : Int) (kv : Value) (us : List Int) (a : Bool) (t : Int) (pv : Value) (l : Bool) (ds : List Int) (w : World) (hk : IsI w kv us) (hp : IsI w pv ds) (h1 : us.length ≤ 1000000) (h2 : ds.length ≤ 1000000) :
    Calls Try.prog 19 #[tV s tt kv, pV a t pv l] w (GotIs kv us (gotF (kindZ a t ds.length l (numsB ds)) s tt us t ds) w) := by
  unfold gotF
  by_cases h0 : kindZ a t ds.length l (numsB ds) < 0
  · rw [if_pos h0]
    exact (got_form s tt kv us a t pv l ds w hk hp h1 h2 _ rfl h0).mono fun e w' ⟨he, hb⟩ => ⟨_, he, hk.below hb, fun _ _ h => h, hb⟩
  rw [if_neg h0]
  by_cases hs : s = 2 ∨ s = 3
  · rw [if_pos hs]
    exact (got_state s tt kv us a t pv l ds w hk hp h1 h2 _ rfl h0 hs).mono fun e w' ⟨he, hb⟩ => ⟨_, he, hk.below hb, fun _ _ h => h, hb⟩
  rw [if_neg hs]
  have hs2 : (s == 2) = false := by simp; omega
  have hs3 : (s == 3) = false := by simp; omega
  have h3 := (kind_ab (show 0 ≤ kindZ a t ds.length l (numsB ds) by omega)).2.2
  rcases (by omega : kindZ a t ds.length l (numsB ds) = 0 ∨ kindZ a t ds.length l (numsB ds) = 1 ∨ kindZ a t ds.length l (numsB ds) = 2 ∨ kindZ a t ds.length l (numsB ds) = 3) with h | h | h | h
  · rw [h]; exact got_whole s tt kv us a t pv l ds w hk hp h1 h2 h hs2 hs3
  · rw [h]; exact got_announced s tt kv us a t pv l ds w hk hp h1 h2 h hs2 hs3
  · rw [h]; exact got_part s tt kv us a t pv l ds w hk hp h1 h2 (kind_two h) h hs2 hs3
  · rw [h]; exact got_end s tt kv us a t pv l ds w hk hp h1 h2 h hs2 hs3
set_option maxRecDepth 100000 in
theorem data_any (s tt : Int) (kv : Value) (us : List Int) (w : World) (hk : IsI w kv us) (h1 : us.length ≤ 1000000) :
    Calls Try.prog 21 #[tV s tt kv] w fun e w' => ∃ ka kc, e = .returned (.tuple #[.slice ka us.length kc, i6 s]) ∧ IsI w' (.slice ka us.length kc) us ∧ Below w.heap.size w w' := by
  obtain ⟨ka, kc, rfl, _⟩ := isI_form hk
  have HK := Lib.hid hk
  clear hk
  go_enter Try.func21, Try.ntmps21
  go_upto_region 1 with fail
  refine code_world (fun W => Below w.heap.size w W ∧ Blk W w.heap.size [i6 s, i6 tt, .slice ka us.length kc]) ⟨by (repeat' (first | with_reducible exact Below.refl _ _ | with_reducible assumption | with_reducible refine q_alloc ?_ _ | with_reducible refine q_drew ?_ | with_reducible refine q_drewN _ ?_ | with_reducible refine q_setCell ?_ ?_ _ | (left; simp; done) | (right; simp; done) | (right; dsimp only; omega) | (left; dsimp only; omega))), Blk.new rfl⟩ ?_
  intro W1 ⟨hq1, b1⟩
  have D0 := stick (b1.cell 0 rfl)
  have D2 := stick (b1.cell 2 rfl)
  have HQ1 := Lib.hid hq1
  have J : Below W1.heap.size W1 W1 := Below.refl _ _
  clear hq1 b1
  go_cut [2, 3] from 4 (fun p q wx => q = i6 s ∧ ∃ a c, p = .slice a us.length c ∧ IsI wx (.slice a us.length c) us ∧ Below W1.heap.size W1 wx)
  case first =>
    go_region_held3 (fun w' => Below W1.heap.size W1 w')
      (first | with_reducible exact J | with_reducible exact J.drew | ((repeat' (first | with_reducible exact Below.refl _ _ | with_reducible assumption | with_reducible refine q_alloc ?_ _ | with_reducible refine q_drew ?_ | with_reducible refine q_drewN _ ?_ | with_reducible refine q_setCell ?_ ?_ _ | (left; simp; done) | (right; simp; done) | (right; dsimp only; omega) | (left; dsimp only; omega))); done))
      (first
        | (go_at_call 28; refine (copied_any _ us _ (HK.out.below (q_step HQ1.out (by first | with_reducible exact J | with_reducible exact J.drew))) h1).mono ?_; rintro e w5 ⟨rfl, hi5, hb⟩; have J5 : Below W1.heap.size W1 w5 := q_step (by first | with_reducible exact J | with_reducible exact J.drew) hb; have HI := Lib.hid hi5; replace J := J5; clear J5 hb hi5))
    all_goals (go_wp2_with fail; go_meet; first | exact ⟨rfl, _, _, rfl, HI.out, J⟩ | exact ⟨rfl, _, _, rfl, HI.out.below (Below.refl _ _).drew, J.drew⟩)
  case rest =>
    obtain ⟨rfl, a, c, rfl, hi, J2⟩ := hcut
    obtain ⟨W2, rfl⟩ : ∃ W : World, W = wc := ⟨_, rfl⟩
    have HI := Lib.hid hi
    have HJ := Lib.hid (q_step HQ1.out J2)
    clear hi J J2
    go_wp2_with fail
    go_returns
    exact ⟨_, _, rfl, HI.out, HJ.out⟩
end Go.Proofs.Ytlaejolgjchfcaa
