/- Layer 42: pieces held against each other; PiecesReads' walk. -/
import Derived.Test.YtlaejolgjchfcaaPc12
namespace Go.Proofs.Ytlaejolgjchfcaa
open Go Go.RowKit
set_option linter.unusedSimpArgs false
set_option linter.unusedVariables false
set_option maxRecDepth 100000 in
set_option maxHeartbeats 4000000 in
theorem of_any (a : Bool) (t : Int) (dv : Value) (l : Bool) (w : World) (hd : ∃ x n c, dv = .slice x n c) :
    Calls Try.prog 16 #[pV a t dv l] w fun e w' => e = .returned (pV a t dv l) ∧ Below w.heap.size w w' := by
  obtain ⟨x, n, c, rfl⟩ := hd
  go_enter Try.func16, Try.ntmps16
  go_wp2_with fail
  exact bodyPost_ret (v := pV a t (.slice x n c) l) (by simp [results, Try.results16, go_sem]) rfl ⟨rfl, by (repeat' (first | with_reducible exact Below.refl _ _ | with_reducible assumption | with_reducible refine q_alloc ?_ _ | with_reducible refine q_drew ?_ | with_reducible refine q_drewN _ ?_ | with_reducible refine q_setCell ?_ ?_ _ | (left; simp; done) | (right; simp; done) | (right; dsimp only; omega) | (left; dsimp only; omega)))⟩
set_option maxRecDepth 100000 in
set_option maxHeartbeats 4000000 in
theorem sameP_any (a : Bool) (t : Int) (v1 v2 : Value) (l : Bool) (us : List Int) (w : World) (h1 : IsI w v1 us) (h2 : IsI w v2 us) (hl : us.length ≤ 1000000) :
    Calls Try.prog 15 #[pV a t v1 l, pV a t v2 l] w fun e w' => e = .returned (.bool true) ∧ Below w.heap.size w w' := by
  obtain ⟨a1, c1, rfl, _⟩ := isI_form h1
  obtain ⟨a2, c2, rfl, _⟩ := isI_form h2
  generalize hn : us.length = n at h1 h2
  have HN := Lib.hid hn
  have H1 := Lib.hid h1
  have H2 := Lib.hid h2
  have HL := Lib.hid hl
  clear h1 h2 hl hn
  cases a <;> cases l
  all_goals
    go_enter Try.func15, Try.ntmps15
    go_wp2_with fail
    refine (same_eq _ _ us _ ?_ ?_ HL.out).mono ?_
    · exact H1.out.below (by (repeat' (first | with_reducible exact Below.refl _ _ | with_reducible assumption | with_reducible refine q_alloc ?_ _ | with_reducible refine q_drew ?_ | with_reducible refine q_drewN _ ?_ | with_reducible refine q_setCell ?_ ?_ _ | (left; simp; done) | (right; simp; done) | (right; dsimp only; omega) | (left; dsimp only; omega))))
    · exact H2.out.below (by (repeat' (first | with_reducible exact Below.refl _ _ | with_reducible assumption | with_reducible refine q_alloc ?_ _ | with_reducible refine q_drew ?_ | with_reducible refine q_drewN _ ?_ | with_reducible refine q_setCell ?_ ?_ _ | (left; simp; done) | (right; simp; done) | (right; dsimp only; omega) | (left; dsimp only; omega))))
    rintro e w3 ⟨rfl, hb⟩
    go_wp2_with fail
    go_returns
    exact ⟨rfl, q_step (by (repeat' (first | with_reducible exact Below.refl _ _ | with_reducible assumption | with_reducible refine q_alloc ?_ _ | with_reducible refine q_drew ?_ | with_reducible refine q_drewN _ ?_ | with_reducible refine q_setCell ?_ ?_ _ | (left; simp; done) | (right; simp; done) | (right; dsimp only; omega) | (left; dsimp only; omega)))) hb⟩
theorem kindZ_out (k t : Int) (n : Nat) (ok : Bool) (h0 : 0 ≤ k) (h3 : k ≤ 3) (ht : t < 0 ∨ 65536 < t) : kindZ (readA k) t n (readB k) ok ≠ k := by
  rw [← kind_meet]
  unfold kindR
  rcases (by omega : k = 0 ∨ k = 1 ∨ k = 2 ∨ k = 3) with rfl | rfl | rfl | rfl <;> simp [readA, readB] <;> (repeat' split) <;> (try simp) <;> omega
theorem rread_ok (v : Value) (k t : Int) (us : List Int) (w : World) (hv : IsI w v (k :: t :: us)) (hl : us.length ≤ 900000) (h0 : 0 ≤ k) (h3 : k ≤ 3) :
    Calls Try.prog 26 #[v] w fun e w' => (kindZ (readA k) t us.length (readB k) (numsB us) = k ∧ (∃ pv, e = .returned (.tuple #[pV (readA k) t pv (readB k), i6 0]) ∧ IsI w' pv us) ∨ kindZ (readA k) t us.length (readB k) (numsB us) ≠ k ∧ e = .returned (.tuple #[pV false 0 (.slice none 0 0) false, i6 2])) ∧ Below w.heap.size w w' := by
  by_cases ht : t < 0 ∨ 65536 < t
  · exact (rread_total v k t us w hv (by omega) h0 h3 ht).mono fun e w' ⟨he, hb⟩ => ⟨Or.inr ⟨kindZ_out k t _ _ h0 h3 ht, he⟩, hb⟩
  · rcases (by omega : k = 0 ∨ k = 1 ∨ k = 2 ∨ k = 3) with rfl | rfl | rfl | rfl
    · exact rread_ok0 v t us w hv hl (by omega) (by omega)
    · exact rread_ok1 v t us w hv hl (by omega) (by omega)
    · exact rread_ok2 v t us w hv hl (by omega) (by omega)
    · exact rread_ok3 v t us w hv hl (by omega) (by omega)
def Told (a : Bool) (t : Int) (b : Bool) (ds : List Int) (E : Int) (W : World) (e : Ending) (w' : World) : Prop :=
  ∃ x c, e = .returned (.tuple #[pV a t (.slice x ds.length c) b, i6 E]) ∧ IsI w' (.slice x ds.length c) ds ∧ (x = none → c = 0) ∧ Below W.heap.size W w'
theorem isI_zero (w : World) : IsI w (.slice none 0 0) [] := Or.inl ⟨_, _, rfl, rfl⟩
theorem reads_both (v : Value) (us : List Int) (w : World) (hv : IsI w v us) (hl : us.length ≤ 300) : ∃ a t b ds E, (E = 0 → codeL (kindZ a t ds.length b (numsB ds)) t ds = us) ∧ ds.length ≤ 300 ∧
    (∀ W, Below w.heap.size w W → Calls Try.prog 25 #[v] W (Told a t b ds E W)) ∧
    (∀ W, Below w.heap.size w W → Calls Try.prog 26 #[v] W (fun e w' => ∃ x c, e = .returned (.tuple #[pV a t (.slice x ds.length c) b, i6 E]) ∧ IsI w' (.slice x ds.length c) ds ∧ Below W.heap.size W w')) := by
  have zer : ∀ E : Int, (∀ W, Below w.heap.size w W → Calls Try.prog 25 #[v] W fun e w' => e = .returned (.tuple #[pV false 0 (.slice none 0 0) false, i6 E]) ∧ Below W.heap.size W w') → (∀ W, Below w.heap.size w W → Calls Try.prog 26 #[v] W fun e w' => e = .returned (.tuple #[pV false 0 (.slice none 0 0) false, i6 E]) ∧ Below W.heap.size W w') → E ≠ 0 → ∃ a t b ds E, (E = 0 → codeL (kindZ a t ds.length b (numsB ds)) t ds = us) ∧ ds.length ≤ 300 ∧
      (∀ W, Below w.heap.size w W → Calls Try.prog 25 #[v] W (Told a t b ds E W)) ∧
      (∀ W, Below w.heap.size w W → Calls Try.prog 26 #[v] W (fun e w' => ∃ x c, e = .returned (.tuple #[pV a t (.slice x ds.length c) b, i6 E]) ∧ IsI w' (.slice x ds.length c) ds ∧ Below W.heap.size W w')) := by
    intro E h1 h2 hE
    exact ⟨false, 0, false, [], E, fun h => absurd h hE, by simp, fun W hW => (h1 W hW).mono fun e w' ⟨he, hb⟩ => ⟨none, 0, he, isI_zero _, fun _ => rfl, hb⟩, fun W hW => (h2 W hW).mono fun e w' ⟨he, hb⟩ => ⟨none, 0, he, isI_zero _, hb⟩⟩
  match us, hv, hl with
  | [], hv, hl =>
    obtain ⟨a, cap, rfl, _⟩ := isI_form hv
    exact zer 3 (fun W hW => read_short a 0 cap W (by omega)) (fun W hW => rread_short a 0 cap W (by omega)) (by omega)
  | [k], hv, hl =>
    obtain ⟨a, cap, rfl, _⟩ := isI_form hv
    exact zer 3 (fun W hW => read_short a 1 cap W (by omega)) (fun W hW => rread_short a 1 cap W (by omega)) (by omega)
  | k :: t :: ds, hv, hl =>
    have hl' : ds.length ≤ 298 := by simp at hl; omega
    by_cases hk : k < 0 ∨ 3 < k
    · exact zer 10 (fun W hW => read_kind v k (t :: ds) W (hv.below hW) (by simp) (by simp; omega) hk) (fun W hW => rread_kind v k (t :: ds) W (hv.below hW) (by simp) (by simp; omega) hk) (by omega)
    · by_cases hkk : kindZ (readA k) t ds.length (readB k) (numsB ds) = k
      · refine ⟨readA k, t, readB k, ds, 0, fun _ => ?_, by omega, fun W hW => ?_, fun W hW => ?_⟩
        · rw [hkk]; unfold codeL; rw [if_neg (by omega)]
        · refine (read_ok v k t ds W (hv.below hW) (by omega) (by omega) (by omega)).mono fun e w' ⟨h, hb⟩ => ?_
          rcases h with ⟨_, pv, he, hi, g, rfl⟩ | ⟨hne, _⟩
          · exact ⟨_, _, he, hi, fun h => by simp at h, hb⟩
          · exact absurd hkk hne
        · refine (rread_ok v k t ds W (hv.below hW) (by omega) (by omega) (by omega)).mono fun e w' ⟨h, hb⟩ => ?_
          rcases h with ⟨_, pv, he, hi⟩ | ⟨hne, _⟩
          · obtain ⟨x, c, rfl, _⟩ := isI_form hi
            exact ⟨_, _, he, hi, hb⟩
          · exact absurd hkk hne
      · refine zer 2 (fun W hW => ?_) (fun W hW => ?_) (by omega)
        · refine (read_ok v k t ds W (hv.below hW) (by omega) (by omega) (by omega)).mono fun e w' ⟨h, hb⟩ => ?_
          rcases h with ⟨he, _⟩ | ⟨_, he⟩
          · exact absurd he hkk
          · exact ⟨he, hb⟩
        · refine (rread_ok v k t ds W (hv.below hW) (by omega) (by omega) (by omega)).mono fun e w' ⟨h, hb⟩ => ?_
          rcases h with ⟨he, _⟩ | ⟨_, he⟩
          · exact absurd he hkk
          · exact ⟨he, hb⟩
set_option maxRecDepth 100000 in
set_option maxHeartbeats 8000000 in
theorem lreads_any (v : Value) (us : List Int) (w : World) (hv : IsI w v us) :
    Calls Try.prog 6 #[v] w fun e w' => e = .returned (.bool true) ∧ Below w.heap.size w w' := by
  by_cases hl : us.length ≤ 300
  · obtain ⟨a, t, b, ds, E, hE, hdl, h1, h2⟩ := reads_both v us w hv hl
    obtain ⟨aa, cap, rfl, _⟩ := isI_form hv
    have hln : ¬ (300 : Int) < (us.length : Int) := by omega
    have HV := Lib.hid hv
    have HE := Lib.hid hE
    have HDL := Lib.hid hdl
    have HL := Lib.hid hl
    have HL2 : Hid (us.length ≤ 1000000) := Lib.hid (by omega)
    clear hv hE hdl hl
    generalize us.length = n at hln HV HL h1 h2 ⊢
    have HH1 := Lib.hid h1
    have HH2 := Lib.hid h2
    clear h1 h2
    go_enter Try.func6, Try.ntmps6
    go_wp2_with fail
    refine (HH1.out _ (by (repeat' (first | with_reducible exact Below.refl _ _ | with_reducible assumption | with_reducible refine q_alloc ?_ _ | with_reducible refine q_drew ?_ | with_reducible refine q_drewN _ ?_ | with_reducible refine q_setCell ?_ ?_ _ | (left; simp; done) | (right; simp; done) | (right; dsimp only; omega) | (left; dsimp only; omega))))).mono ?_
    rintro e w1 ⟨x1, c1, rfl, hi1, hn1, hb1⟩
    have HI1 := Lib.hid hi1
    have HN1 := Lib.hid hn1
    clear hi1 hn1
    go_wp2_with fail
    refine calls_world (fun W => Below w.heap.size w W ∧ Blk W w1.heap.size [.bool a, i6 t, .slice x1 ds.length c1, .bool b] ∧ IsI W (.slice x1 ds.length c1) ds) ⟨by (repeat' (first | with_reducible exact Below.refl _ _ | with_reducible assumption | with_reducible refine q_alloc ?_ _ | with_reducible refine q_drew ?_ | with_reducible refine q_drewN _ ?_ | with_reducible refine q_setCell ?_ ?_ _ | (left; simp; done) | (right; simp; done) | (right; dsimp only; omega) | (left; dsimp only; omega))), Blk.new rfl, HI1.out.below (by (repeat' (first | with_reducible exact Below.refl _ _ | with_reducible assumption | with_reducible refine q_alloc ?_ _ | with_reducible refine q_drew ?_ | with_reducible refine q_drewN _ ?_ | with_reducible refine q_setCell ?_ ?_ _ | (left; simp; done) | (right; simp; done) | (right; dsimp only; omega) | (left; dsimp only; omega))))⟩ ?_
    intro W1 ⟨J1, b1, i1⟩
    generalize w1.heap.size = g1 at b1 ⊢
    clear hb1 HI1
    refine (HH2.out _ J1).mono ?_
    rintro e w2 ⟨x2, c2, rfl, i2, hb2⟩
    replace i1 := i1.below hb2
    replace b1 := b1.below hb2
    have J2 := q_step J1 hb2
    have HI1 := Lib.hid i1
    have HI2 := Lib.hid i2
    have HB1 := Lib.hid b1
    have hg12 : g1 < w2.heap.size := b1.lt
    clear i1 i2 b1 hb2 J1
    go_upto_region 5 with fail
    refine code_world (fun W => Below w.heap.size w W ∧ Blk W g1 [.bool a, i6 t, .slice x1 ds.length c1, .bool b] ∧ Blk W w2.heap.size [.bool a, i6 t, .slice x2 ds.length c2, .bool b] ∧ IsI W (.slice x1 ds.length c1) ds ∧ IsI W (.slice x2 ds.length c2) ds) ⟨by (repeat' (first | with_reducible exact Below.refl _ _ | with_reducible assumption | with_reducible refine q_alloc ?_ _ | with_reducible refine q_drew ?_ | with_reducible refine q_drewN _ ?_ | with_reducible refine q_setCell ?_ ?_ _ | (left; simp; done) | (right; simp; done) | (right; dsimp only; omega) | (left; dsimp only; omega))), HB1.out.below (by (repeat' (first | with_reducible exact Below.refl _ _ | with_reducible assumption | with_reducible refine q_alloc ?_ _ | with_reducible refine q_drew ?_ | with_reducible refine q_drewN _ ?_ | with_reducible refine q_setCell ?_ ?_ _ | (left; simp; done) | (right; simp; done) | (right; dsimp only; omega) | (left; dsimp only; omega)))), Blk.new rfl, HI1.out.below (by (repeat' (first | with_reducible exact Below.refl _ _ | with_reducible assumption | with_reducible refine q_alloc ?_ _ | with_reducible refine q_drew ?_ | with_reducible refine q_drewN _ ?_ | with_reducible refine q_setCell ?_ ?_ _ | (left; simp; done) | (right; simp; done) | (right; dsimp only; omega) | (left; dsimp only; omega)))), HI2.out.below (by (repeat' (first | with_reducible exact Below.refl _ _ | with_reducible assumption | with_reducible refine q_alloc ?_ _ | with_reducible refine q_drew ?_ | with_reducible refine q_drewN _ ?_ | with_reducible refine q_setCell ?_ ?_ _ | (left; simp; done) | (right; simp; done) | (right; dsimp only; omega) | (left; dsimp only; omega))))⟩ ?_
    intro W2 ⟨J3, b1, b2, i1, i2⟩
    generalize w2.heap.size = g2 at b2 hg12 ⊢
    clear J2 HB1 HI1 HI2
    have r0 := stick (b1.cell 0 rfl)
    have r1 := stick (b1.cell 1 rfl)
    have r2 := stick (b1.cell 2 rfl)
    have r3 := stick (b1.cell 3 rfl)
    have s0 := stick (b2.cell 0 rfl)
    have s1 := stick (b2.cell 1 rfl)
    have s2 := stick (b2.cell 2 rfl)
    have s3 := stick (b2.cell 3 rfl)
    have HB1 := Lib.hid b1
    have HI1 := Lib.hid i1
    have HI2 := Lib.hid i2
    have HJ := Lib.hid J3
    have J : Below W2.heap.size W2 W2 := Below.refl _ _
    have h1000 : ds.length ≤ 1000000 := by have := HDL.out; omega
    clear b1 b2 i1 i2 J3
    go_cut [30] from 21 (fun s wx => s = .bool false ∧ Below W2.heap.size W2 wx)
    case first =>
      go_region_held3 (fun w' => Below W2.heap.size W2 w')
        (first | exact J | exact J.drew | exact q_alloc J _ | exact q_alloc J.drew _ | (exact by (repeat' (first | with_reducible exact Below.refl _ _ | with_reducible assumption | with_reducible refine q_alloc ?_ _ | with_reducible refine q_drew ?_ | with_reducible refine q_drewN _ ?_ | with_reducible refine q_setCell ?_ ?_ _ | (left; simp; done) | (right; simp; done) | (right; dsimp only; omega) | (left; dsimp only; omega)))))
        (first
          | (go_at_call 16; refine (of_any a t (.slice x1 ds.length c1) b _ ⟨_, _, _, rfl⟩).mono ?_; rintro e w5 ⟨rfl, hb⟩; have J5 : Below W2.heap.size W2 w5 := q_step (by first | exact J | exact J.drew | exact q_alloc J _ | exact q_alloc J.drew _ | (exact by (repeat' (first | with_reducible exact Below.refl _ _ | with_reducible assumption | with_reducible refine q_alloc ?_ _ | with_reducible refine q_drew ?_ | with_reducible refine q_drewN _ ?_ | with_reducible refine q_setCell ?_ ?_ _ | (left; simp; done) | (right; simp; done) | (right; dsimp only; omega) | (left; dsimp only; omega))))) hb; replace J := J5; clear J5 hb)
          | (go_at_call 15; refine (sameP_any a t (.slice x1 ds.length c1) (.slice x2 ds.length c2) b ds _ ?_ ?_ h1000).mono ?_; (exact HI1.out.below (by first | exact J | exact J.drew | exact q_alloc J _ | exact q_alloc J.drew _ | (exact by (repeat' (first | with_reducible exact Below.refl _ _ | with_reducible assumption | with_reducible refine q_alloc ?_ _ | with_reducible refine q_drew ?_ | with_reducible refine q_drewN _ ?_ | with_reducible refine q_setCell ?_ ?_ _ | (left; simp; done) | (right; simp; done) | (right; dsimp only; omega) | (left; dsimp only; omega)))))); (exact HI2.out.below (by first | exact J | exact J.drew | exact q_alloc J _ | exact q_alloc J.drew _ | (exact by (repeat' (first | with_reducible exact Below.refl _ _ | with_reducible assumption | with_reducible refine q_alloc ?_ _ | with_reducible refine q_drew ?_ | with_reducible refine q_drewN _ ?_ | with_reducible refine q_setCell ?_ ?_ _ | (left; simp; done) | (right; simp; done) | (right; dsimp only; omega) | (left; dsimp only; omega)))))); rintro e w5 ⟨rfl, hb⟩; have J5 : Below W2.heap.size W2 w5 := q_step (by first | exact J | exact J.drew | exact q_alloc J _ | exact q_alloc J.drew _ | (exact by (repeat' (first | with_reducible exact Below.refl _ _ | with_reducible assumption | with_reducible refine q_alloc ?_ _ | with_reducible refine q_drew ?_ | with_reducible refine q_drewN _ ?_ | with_reducible refine q_setCell ?_ ?_ _ | (left; simp; done) | (right; simp; done) | (right; dsimp only; omega) | (left; dsimp only; omega))))) hb; replace J := J5; clear J5 hb))
      all_goals (go_wp2_with fail; go_meet; exact ⟨by first | rfl | (simp; done), by (repeat' (first | with_reducible exact Below.refl _ _ | with_reducible assumption | with_reducible refine q_alloc ?_ _ | with_reducible refine q_drew ?_ | with_reducible refine q_drewN _ ?_ | with_reducible refine q_setCell ?_ ?_ _ | (left; simp; done) | (right; simp; done) | (right; dsimp only; omega) | (left; dsimp only; omega)))⟩)
    case rest =>
      obtain ⟨rfl, J4⟩ := hcut
      obtain ⟨W4, rfl⟩ : ∃ W : World, W = wc := ⟨_, rfl⟩
      have d0 := r0 _ J4
      have d1 := r1 _ J4
      have d2 := r2 _ J4
      have d3 := r3 _ J4
      clear r0 r1 r2 r3 s0 s1 s2 s3 J
      have hq := q_step HJ.out J4
      by_cases hE0 : E = 0
      · have HE0 := Lib.hid (HE.out hE0)
        clear HE
        subst hE0
        go_wp2_with fail
        refine (code_any a t x1 c1 b ds _ ?_ ?_ h1000).mono ?_
        · exact HI1.out.below J4
        · exact HN1.out
        rintro e w5 ⟨v5, rfl, hi5, hb5⟩
        rw [HE0.out] at hi5
        have HI5 := Lib.hid hi5
        clear hi5
        go_wp2_with fail
        refine (same_eq _ _ us _ HI5.out ?_ HL2.out).mono ?_
        · exact HV.out.below (q_step hq hb5)
        rintro e w6 ⟨rfl, hb6⟩
        go_wp2_with fail
        refine (awake42 _).mono ?_
        rintro e w7 ⟨rfl, hb7⟩
        go_wp2_with fail
        go_returns
        exact ⟨by first | rfl | (simp; done), q_step (q_step (q_step hq hb5) hb6) hb7⟩
      · go_wp2_with fail
        refine (awake42 _).mono ?_
        rintro e w7 ⟨rfl, hb7⟩
        go_wp2_with fail
        go_returns
        exact ⟨by first | rfl | (simp; done), q_step hq hb7⟩
  · obtain ⟨aa, cap, rfl, _⟩ := isI_form hv
    have hln : (300 : Int) < (us.length : Int) := by omega
    clear hl
    go_enter Try.func6, Try.ntmps6
    go_wp2_with fail
    refine (awake42 _).mono ?_
    rintro e w7 ⟨rfl, hb7⟩
    go_wp2_with fail
    go_returns
    exact ⟨by first | rfl | (simp; done), hb7⟩
end Go.Proofs.Ytlaejolgjchfcaa
