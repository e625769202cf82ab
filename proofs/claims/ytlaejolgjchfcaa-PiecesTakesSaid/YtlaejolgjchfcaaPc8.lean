/- Layer 42: rows read. -/
import Derived.Test.YtlaejolgjchfcaaPc6
namespace Go.Proofs.Ytlaejolgjchfcaa
open Go Go.RowKit
set_option linter.unusedSimpArgs false
set_option linter.unusedVariables false
theorem read_short (a : Option Addr) (n cap : Nat) (w : World) (h : n < 2) :
    Calls Try.prog 25 #[.slice a n cap] w fun e w' => e = .returned (.tuple #[pV false 0 (.slice none 0 0) false, i6 3]) ∧ Below w.heap.size w w' := by
  have h1 : (n : Int) < 2 := by omega
  go_enter Try.func25, Try.ntmps25
  go_wp2_with fail
  go_returns
  exact ⟨by first | rfl | (simp; done), by (repeat' (first | with_reducible exact Below.refl _ _ | with_reducible assumption | with_reducible refine q_alloc ?_ _ | with_reducible refine q_drew ?_ | with_reducible refine q_drewN _ ?_ | with_reducible refine q_setCell ?_ ?_ _ | (left; simp; done) | (right; simp; done) | (right; dsimp only; omega) | (left; dsimp only; omega)))⟩
theorem isI_get {w : World} {a : Option Addr} {n cap : Nat} {us : List Int} (h : IsI w (.slice a n cap) us) (h0 : 0 < us.length) : ∃ b off, a = some ⟨b, off, none⟩ ∧ n = us.length ∧ us.length ≤ cap ∧ cap ≤ maxLen ∧ b < w.heap.size ∧ LayI w b off us := by
  rcases h with ⟨_, _, e, h1⟩ | ⟨b, off, cap', e, h1, h2, h3, h4, h5⟩
  · rw [h1] at h0; simp at h0
  · simp only [Value.slice.injEq] at e
    obtain ⟨rfl, rfl, rfl⟩ := e
    exact ⟨b, off, rfl, rfl, h2, h3, h4, h5⟩
set_option maxRecDepth 100000 in
theorem read_kind (v : Value) (k : Int) (us : List Int) (w : World) (hv : IsI w v (k :: us)) (h : 1 ≤ us.length) (hl : us.length ≤ 1000000) (hk : k < 0 ∨ 3 < k) :
    Calls Try.prog 25 #[v] w fun e w' => e = .returned (.tuple #[pV false 0 (.slice none 0 0) false, i6 10]) ∧ Below w.heap.size w w' := by
  obtain ⟨a, cap, rfl, hf⟩ := isI_form hv
  obtain ⟨b, off, rfl, h2, h3, h4, h5⟩ := hf (by simp)
  have d0 := h5 0 k rfl
  rw [Nat.add_zero] at d0
  have hn : ¬ (((k :: us).length : Nat) : Int) < 2 := by simp <;> omega
  have hp : (0 : Int) < (((k :: us).length : Nat) : Int) := by simp <;> omega
  generalize (k :: us).length = n at hn hp
  clear hf hv h5
  rcases hk with hk | hk
  · go_enter Try.func25, Try.ntmps25
    go_wp2_with fail
    go_returns
    exact ⟨by first | rfl | (simp; done), by (repeat' (first | with_reducible exact Below.refl _ _ | with_reducible assumption | with_reducible refine q_alloc ?_ _ | with_reducible refine q_drew ?_ | with_reducible refine q_drewN _ ?_ | with_reducible refine q_setCell ?_ ?_ _ | (left; simp; done) | (right; simp; done) | (right; dsimp only; omega) | (left; dsimp only; omega)))⟩
  · have hk2 : ¬ k < 0 := by omega
    go_enter Try.func25, Try.ntmps25
    go_wp2_with fail
    go_returns
    exact ⟨by first | rfl | (simp; done), by (repeat' (first | with_reducible exact Below.refl _ _ | with_reducible assumption | with_reducible refine q_alloc ?_ _ | with_reducible refine q_drew ?_ | with_reducible refine q_drewN _ ?_ | with_reducible refine q_setCell ?_ ?_ _ | (left; simp; done) | (right; simp; done) | (right; dsimp only; omega) | (left; dsimp only; omega)))⟩
theorem ix_any (k : Int) (h0 : 0 ≤ k) (h3 : k ≤ 3) : ∃ f g, ∀ w, (Instr.index 75 (.agg rulesL.toArray) (.int .i64 k)).run Try.prog w = .ok (.agg #[.bool (decide (0 < k)), .bool (decide (k = 0 ∨ k = 3)), fV f, fV g]) w := by
  rcases (by omega : k = 0 ∨ k = 1 ∨ k = 2 ∨ k = 3) with rfl | rfl | rfl | rfl
  · exact ⟨_, _, ix0⟩
  · exact ⟨_, _, ix1⟩
  · exact ⟨_, _, ix2⟩
  · exact ⟨_, _, ix3⟩
theorem slice_low (a : Option Addr) (n cap F : Nat) (us : List Int) (w0 : World) (h : IsI w0 (.slice a n cap) us) (hn : us.length = n) (hF : F ≤ n) :
    ∃ v, (∀ w, (Instr.slice 22 (.slice a n cap) (some (.int .i64 (F : Int))) none none).run Try.prog w = .ok v w) ∧ IsI w0 v (us.drop F) := by
  refine ⟨sliced a F n cap 1, fun w => ?_, ?_⟩
  · rw [run_slice_l w _ a n cap und_i64s' .i64 (F : Int) (by omega) (by omega), size_i64']
    simp [Result.andThen]
  · unfold sliced
    by_cases h0 : n - F = 0
    · exact Or.inl ⟨_, _, by rw [h0], by rw [List.drop_eq_nil_iff]; omega⟩
    · rcases h with ⟨_, _, e, h1⟩ | ⟨b, off, cap', e, h1, h2, h3, h4, h5⟩
      · rw [h1] at hn; simp at hn; omega
      · simp only [Value.slice.injEq] at e
        obtain ⟨rfl, _, rfl⟩ := e
        have hl : (us.drop F).length = n - F := by rw [List.length_drop]; omega
        refine Or.inr ⟨b, off + F, cap - F, ?_, by omega, by omega, by omega, h4, fun j r hj => ?_⟩
        · rw [if_neg (by omega), hl]; simp [addr_add]
        · rw [List.getElem?_drop] at hj
          have := h5 _ _ hj
          rw [show off + F + j = off + (F + j) by omega]
          exact this
def readA (k : Int) : Bool := decide (0 < k)
def readB (k : Int) : Bool := decide (k = 0 ∨ k = 3)
set_option maxRecDepth 100000 in
set_option maxHeartbeats 8000000 in
theorem read_ok (v : Value) (k t : Int) (us : List Int) (w : World) (hv : IsI w v (k :: t :: us)) (hl : us.length ≤ 900000) (h0 : 0 ≤ k) (h3 : k ≤ 3) :
    Calls Try.prog 25 #[v] w fun e w' => (kindZ (readA k) t us.length (readB k) (numsB us) = k ∧ (∃ pv, e = .returned (.tuple #[pV (readA k) t pv (readB k), i6 0]) ∧ IsI w' pv us ∧ (∃ g, pv = .slice (some ⟨g, 0, none⟩) us.length us.length)) ∨ kindZ (readA k) t us.length (readB k) (numsB us) ≠ k ∧ e = .returned (.tuple #[pV false 0 (.slice none 0 0) false, i6 2])) ∧ Below w.heap.size w w' := by
  obtain ⟨a, cap, rfl, hf⟩ := isI_form hv
  obtain ⟨b, off, rfl, h2, _, h4, h5⟩ := hf (by simp)
  obtain ⟨f, g, hix⟩ := ix_any k h0 h3
  obtain ⟨sv, hsl, hsv⟩ := slice_low _ _ cap 2 (k :: t :: us) w hv rfl (by simp)
  replace hsv : IsI w sv us := hsv
  have hsl2 : ∀ w, (Instr.slice 22 (.slice (some ⟨b, off, none⟩) (k :: t :: us).length cap) (some (.int .i64 2)) none none).run Try.prog w = .ok sv w := hsl
  clear hsl
  change ∀ w, _ = Result.ok (Value.agg #[.bool (readA k), .bool (readB k), fV f, fV g]) w at hix
  obtain ⟨sa, sc, rfl, _⟩ := isI_form hsv
  have x0 := stick (h5 0 k rfl)
  have x1 := stick (h5 1 t rfl)
  rw [Nat.add_zero] at x0
  have hn : ¬ (((k :: t :: us).length : Nat) : Int) < 2 := by simp <;> omega
  have hp : (0 : Int) < (((k :: t :: us).length : Nat) : Int) := by simp <;> omega
  have hp1 : (1 : Int) < (((k :: t :: us).length : Nat) : Int) := by simp <;> omega
  have hp2 : (2 : Int) ≤ (((k :: t :: us).length : Nat) : Int) := by simp <;> omega
  have hm0 : 0 < (k :: t :: us).length := by simp
  have hm1 : 1 < (k :: t :: us).length := by simp
  have hm2 : 2 ≤ (k :: t :: us).length := by simp
  generalize (k :: t :: us).length = n at hn hp hp1 hp2 hm0 hm1 hm2 hsl2 ⊢
  have hk1 : ¬ k < 0 := by omega
  have hk2 : ¬ 3 < k := by omega
  have hk3 : k < 4 := by omega
  have HSV := Lib.hid hsv
  have J : Below w.heap.size w w := Below.refl _ _
  have hz := h4
  obtain ⟨KK, hKK⟩ : ∃ KK, kindZ (readA k) t us.length (readB k) (numsB us) = KK := ⟨_, rfl⟩
  rw [hKK]
  have HKK := Lib.hid hKK
  clear hv hf h5 hsv h2 h4 hKK
  generalize hRA : readA k = RA at hix HKK ⊢
  generalize hRB : readB k = RB at hix HKK ⊢
  clear hRA hRB
  have d9 := x0 _ J
  generalize hRL : rulesL.toArray = RL at hix
  have HRL := Lib.hid hRL
  clear hRL
  go_enter Try.func25, Try.ntmps25
  go_upto_region 5 with fail
  clear d9
  refine code_world (fun W => Below w.heap.size w W ∧ Blk W w.heap.size [.bool false, i6 0, .slice none 0 0, .bool false]) ⟨by (repeat' (first | with_reducible exact Below.refl _ _ | with_reducible assumption | with_reducible refine q_alloc ?_ _ | with_reducible refine q_drew ?_ | with_reducible refine q_drewN _ ?_ | with_reducible refine q_setCell ?_ ?_ _ | (left; simp; done) | (right; simp; done) | (right; dsimp only; omega) | (left; dsimp only; omega))), Blk.new rfl⟩ ?_
  intro W1 ⟨J1, b1⟩
  clear J
  have zb1 := block_lt_of_cell (x0 _ J1)
  dsimp only at zb1
  have y0 := fun W h => x0 W (q_step J1 h)
  have J : Below W1.heap.size W1 W1 := Below.refl _ _
  have HJ1 := Lib.hid J1
  have HB1 := Lib.hid b1
  have X0 := Lib.hid x0
  have X1 := Lib.hid x1
  clear x0 x1 J1 b1
  go_cut [4] from 23 (fun p wx => ∃ c, p = .pointer (some ⟨c, 0, none⟩) ∧ Below W1.heap.size W1 wx ∧ Blk wx c [.bool RA, .bool RB, fV f, fV g])
  case first =>
    go_region_held3 (fun w' => Below W1.heap.size W1 w')
      (first | exact J | exact J.drew | exact q_alloc J _ | exact q_alloc J.drew _ | (exact by (repeat' (first | with_reducible exact Below.refl _ _ | with_reducible assumption | with_reducible refine q_alloc ?_ _ | with_reducible refine q_drew ?_ | with_reducible refine q_drewN _ ?_ | with_reducible refine q_setCell ?_ ?_ _ | (left; simp; done) | (right; simp; done) | (right; dsimp only; omega) | (left; dsimp only; omega)))))
      (first
        | (go_at_call 31; refine (rules_any _).mono ?_; rintro e w5 ⟨rfl, hb⟩; rw [HRL.out]; have J5 : Below W1.heap.size W1 w5 := q_step (by first | exact J | exact J.drew | exact q_alloc J _ | exact q_alloc J.drew _ | (exact by (repeat' (first | with_reducible exact Below.refl _ _ | with_reducible assumption | with_reducible refine q_alloc ?_ _ | with_reducible refine q_drew ?_ | with_reducible refine q_drewN _ ?_ | with_reducible refine q_setCell ?_ ?_ _ | (left; simp; done) | (right; simp; done) | (right; dsimp only; omega) | (left; dsimp only; omega))))) hb; (try (have hd5 : Blk w5 W1.heap.size [.bool false, .bool false, .nilFunc, .nilFunc] := (by first | exact Blk.below (Blk.new rfl) hb | exact Blk.below (Blk.below (Blk.new rfl) (Below.refl _ _).drew) hb); have dc0 := hd5.cell 0 rfl; have df0 := hd5.froz 0 rfl; have dc1 := hd5.cell 1 rfl; have df1 := hd5.froz 1 rfl; have dc2 := hd5.cell 2 rfl; have df2 := hd5.froz 2 rfl; have dc3 := hd5.cell 3 rfl; have df3 := hd5.froz 3 rfl; have dz := hd5.lt)); replace J := J5; clear J5 hb))
    all_goals (go_wp2_with fail; go_meet; (refine ⟨_, rfl, by (repeat' (first | with_reducible exact Below.refl _ _ | with_reducible assumption | with_reducible refine q_alloc ?_ _ | with_reducible refine q_drew ?_ | with_reducible refine q_drewN _ ?_ | with_reducible refine q_setCell ?_ ?_ _ | (left; simp; done) | (right; simp; done) | (right; dsimp only; omega) | (left; dsimp only; omega))), ?_⟩; first | exact hd5.set4 | exact Blk.new rfl))
  case rest =>
    obtain ⟨c, rfl, J2, br⟩ := hcut
    have J1 := HJ1.out
    have b1 := HB1.out
    obtain ⟨W2, rfl⟩ : ∃ W : World, W = wc := ⟨_, rfl⟩
    have b2 := b1.below J2
    replace J2 := q_step J1 J2
    clear b1 J J1 y0 hix HRL HJ1 HB1
    have r0 := stick (br.cell 0 rfl)
    have r1 := stick (br.cell 1 rfl)
    have y1 := fun W h => X1.out W (q_step J2 h)
    have y0 := fun W h => X0.out W (q_step J2 h)
    have J : Below W2.heap.size W2 W2 := Below.refl _ _
    have HJ2 := Lib.hid J2
    clear X0 X1 br J2
    go_upto_region 6 with fail
    go_cut [5] from 28 (fun p wx => ∃ c5 gg, p = .pointer (some ⟨c5, 0, none⟩) ∧ Below W2.heap.size W2 wx ∧ Blk wx c5 [.bool RA, i6 t, .slice (some ⟨gg, 0, none⟩) us.length us.length, .bool RB] ∧ W2.heap.size ≤ gg ∧ IsI wx (.slice (some ⟨gg, 0, none⟩) us.length us.length) us)
    case first =>
      go_region_held3 (fun w' => Below W2.heap.size W2 w')
        (first | exact J | exact J.drew | exact q_alloc J _ | exact q_alloc J.drew _ | (exact by (repeat' (first | with_reducible exact Below.refl _ _ | with_reducible assumption | with_reducible refine q_alloc ?_ _ | with_reducible refine q_drew ?_ | with_reducible refine q_drewN _ ?_ | with_reducible refine q_setCell ?_ ?_ _ | (left; simp; done) | (right; simp; done) | (right; dsimp only; omega) | (left; dsimp only; omega)))))
        (first
          | (go_at_call 28; refine (copied_any _ us _ ?_ (by omega)).mono ?_; (exact HSV.out.below (q_step HJ2.out (by first | exact J | exact J.drew | exact q_alloc J _ | exact q_alloc J.drew _ | (exact by (repeat' (first | with_reducible exact Below.refl _ _ | with_reducible assumption | with_reducible refine q_alloc ?_ _ | with_reducible refine q_drew ?_ | with_reducible refine q_drewN _ ?_ | with_reducible refine q_setCell ?_ ?_ _ | (left; simp; done) | (right; simp; done) | (right; dsimp only; omega) | (left; dsimp only; omega))))))); rintro e w5 ⟨rfl, hcp, hb⟩; have J5 : Below W2.heap.size W2 w5 := q_step (by first | exact J | exact J.drew | exact q_alloc J _ | exact q_alloc J.drew _ | (exact by (repeat' (first | with_reducible exact Below.refl _ _ | with_reducible assumption | with_reducible refine q_alloc ?_ _ | with_reducible refine q_drew ?_ | with_reducible refine q_drewN _ ?_ | with_reducible refine q_setCell ?_ ?_ _ | (left; simp; done) | (right; simp; done) | (right; dsimp only; omega) | (left; dsimp only; omega))))) hb; have HCP := Lib.hid hcp; (try (have hd5 : Blk w5 W2.heap.size [.bool false, i6 0, .slice none 0 0, .bool false] := (by first | exact Blk.below (Blk.new rfl) hb | exact Blk.below (Blk.below (Blk.new rfl) (Below.refl _ _).drew) hb); have dc0 := hd5.cell 0 rfl; have df0 := hd5.froz 0 rfl; have dc1 := hd5.cell 1 rfl; have df1 := hd5.froz 1 rfl; have dc2 := hd5.cell 2 rfl; have df2 := hd5.froz 2 rfl; have dc3 := hd5.cell 3 rfl; have df3 := hd5.froz 3 rfl; have dz := hd5.lt)); have hgz : W2.heap.size ≤ w5.heap.size := J5.size; replace J := J5; clear J5 hb hcp))
      all_goals (go_wp2_with fail; go_meet; first
        | (have zz := hd5.lt
           have hx := HCP.out
           (try simp at hx)
           exact ⟨_, W2.heap.size + 1, rfl, by (repeat' (first | with_reducible exact Below.refl _ _ | with_reducible assumption | with_reducible refine q_alloc ?_ _ | with_reducible refine q_drew ?_ | with_reducible refine q_drewN _ ?_ | with_reducible refine q_setCell ?_ ?_ _ | (left; simp; done) | (right; simp; done) | (right; dsimp only; omega) | (left; dsimp only; omega))), hd5.set4, by omega, isI_set (isI_set (isI_set (isI_set (by first | exact HCP.out | exact hx | (have := HCP.out; simpa using this)) (by simp)) (by simp)) (by simp)) (by simp)⟩)
        | exact ⟨_, W2.heap.size, rfl, by (repeat' (first | with_reducible exact Below.refl _ _ | with_reducible assumption | with_reducible refine q_alloc ?_ _ | with_reducible refine q_drew ?_ | with_reducible refine q_drewN _ ?_ | with_reducible refine q_setCell ?_ ?_ _ | (left; simp; done) | (right; simp; done) | (right; dsimp only; omega) | (left; dsimp only; omega))), Blk.new rfl, Nat.le_refl _, HCP.out.below (by (repeat' (first | with_reducible exact Below.refl _ _ | with_reducible assumption | with_reducible refine q_alloc ?_ _ | with_reducible refine q_drew ?_ | with_reducible refine q_drewN _ ?_ | with_reducible refine q_setCell ?_ ?_ _ | (left; simp; done) | (right; simp; done) | (right; dsimp only; omega) | (left; dsimp only; omega))))⟩)
    case rest =>
      obtain ⟨c5, gg, rfl, J3, bp, hgl, hpv⟩ := hcut
      have hgn : ¬ w.heap.size = gg := by have := b2.lt; omega
      obtain ⟨W3, rfl⟩ : ∃ W : World, W = wc := ⟨_, rfl⟩
      clear J r0 r1 y1
      have q0 := stick (bp.cell 0 rfl)
      have q1 := stick (bp.cell 1 rfl)
      have q2 := stick (bp.cell 2 rfl)
      have q3 := stick (bp.cell 3 rfl)
      have z0 := fun W h => y0 W (q_step J3 h)
      have HPV := Lib.hid hpv
      have HJ3 := Lib.hid (q_step HJ2.out J3)
      have HB2 := Lib.hid (b2.below J3)
      have J : Below W3.heap.size W3 W3 := Below.refl _ _
      clear y0 bp hpv J3 HJ2 b2 HSV
      go_upto_region 7 with fail
      go_cut [44] from 39 (fun s wx => s = .bool (!decide (KK = k)) ∧ Below W3.heap.size W3 wx)
      case first =>
        go_region_held3 (fun w' => Below W3.heap.size W3 w')
          (first | exact J | exact J.drew | exact q_alloc J _ | exact q_alloc J.drew _ | (exact by (repeat' (first | with_reducible exact Below.refl _ _ | with_reducible assumption | with_reducible refine q_alloc ?_ _ | with_reducible refine q_drew ?_ | with_reducible refine q_drewN _ ?_ | with_reducible refine q_setCell ?_ ?_ _ | (left; simp; done) | (right; simp; done) | (right; dsimp only; omega) | (left; dsimp only; omega)))))
          (first
            | (go_at_call 30; refine (kind_any RA t (.slice (some ⟨gg, 0, none⟩) us.length us.length) RB us _ ?_ (by omega)).mono ?_; (exact HPV.out.below (by first | exact J | exact J.drew | exact q_alloc J _ | exact q_alloc J.drew _ | (exact by (repeat' (first | with_reducible exact Below.refl _ _ | with_reducible assumption | with_reducible refine q_alloc ?_ _ | with_reducible refine q_drew ?_ | with_reducible refine q_drewN _ ?_ | with_reducible refine q_setCell ?_ ?_ _ | (left; simp; done) | (right; simp; done) | (right; dsimp only; omega) | (left; dsimp only; omega)))))); rintro e w5 ⟨rfl, hb⟩; rw [HKK.out]; have J5 : Below W3.heap.size W3 w5 := q_step (by first | exact J | exact J.drew | exact q_alloc J _ | exact q_alloc J.drew _ | (exact by (repeat' (first | with_reducible exact Below.refl _ _ | with_reducible assumption | with_reducible refine q_alloc ?_ _ | with_reducible refine q_drew ?_ | with_reducible refine q_drewN _ ?_ | with_reducible refine q_setCell ?_ ?_ _ | (left; simp; done) | (right; simp; done) | (right; dsimp only; omega) | (left; dsimp only; omega))))) hb; replace J := J5; clear J5 hb))
        all_goals (go_wp2_with fail; go_meet; exact ⟨by first | rfl | (simp; done), by (repeat' (first | with_reducible exact Below.refl _ _ | with_reducible assumption | with_reducible refine q_alloc ?_ _ | with_reducible refine q_drew ?_ | with_reducible refine q_drewN _ ?_ | with_reducible refine q_setCell ?_ ?_ _ | (left; simp; done) | (right; simp; done) | (right; dsimp only; omega) | (left; dsimp only; omega)))⟩)
      case rest =>
        obtain ⟨rfl, J4⟩ := hcut
        obtain ⟨W4, rfl⟩ : ∃ W : World, W = wc := ⟨_, rfl⟩
        have b1 := HB2.out.below J4
        clear J
        have d0 := b1.cell 0 rfl
        have d1 := b1.cell 1 rfl
        have d2 := b1.cell 2 rfl
        have d3 := b1.cell 3 rfl
        have e0 := b1.froz 0 rfl
        have e1 := b1.froz 1 rfl
        have e2 := b1.froz 2 rfl
        have e3 := b1.froz 3 rfl
        have hqw := q_step HJ3.out J4
        by_cases hkk : KK = k
        · have hdc : decide (KK = k) = true := decide_eq_true hkk
          rw [hdc]
          clear hdc
          go_wp2_with fail
          refine body_world (fun W => Below w.heap.size w W ∧ Blk W w.heap.size [.bool RA, i6 t, .slice (some ⟨gg, 0, none⟩) us.length us.length, .bool RB] ∧ IsI W (.slice (some ⟨gg, 0, none⟩) us.length us.length) us) ⟨by (repeat' (first | with_reducible exact Below.refl _ _ | with_reducible assumption | with_reducible refine q_alloc ?_ _ | with_reducible refine q_drew ?_ | with_reducible refine q_drewN _ ?_ | with_reducible refine q_setCell ?_ ?_ _ | (left; simp; done) | (right; simp; done) | (right; dsimp only; omega) | (left; dsimp only; omega))), b1.set4, isI_set (isI_set (isI_set (isI_set (HPV.out.below J4) (by simp <;> omega)) (by simp <;> omega)) (by simp <;> omega)) (by simp <;> omega)⟩ ?_
          intro W9 ⟨hq9, b9, i9⟩
          clear d0 d1 d2 d3 e0 e1 e2 e3
          have d0 := b9.cell 0 rfl
          have d1 := b9.cell 1 rfl
          have d2 := b9.cell 2 rfl
          have d3 := b9.cell 3 rfl
          exact bodyPost_ret (v := .tuple #[pV RA t (.slice (some ⟨gg, 0, none⟩) us.length us.length) RB, i6 0]) (by simp [results, Try.results25, go_sem, d0, d1, d2, d3]) rfl (by first | exact ⟨Or.inl ⟨hkk, _, rfl, i9, _, rfl⟩, hq9⟩ | exact ⟨⟨_, rfl, i9, _, rfl⟩, hq9⟩)
        · have hdc : decide (KK = k) = false := decide_eq_false hkk
          rw [hdc]
          clear hdc
          go_wp2_with fail
          refine body_world (fun W => Below w.heap.size w W ∧ Blk W w.heap.size [.bool false, i6 0, .slice none 0 0, .bool false]) ⟨by (repeat' (first | with_reducible exact Below.refl _ _ | with_reducible assumption | with_reducible refine q_alloc ?_ _ | with_reducible refine q_drew ?_ | with_reducible refine q_drewN _ ?_ | with_reducible refine q_setCell ?_ ?_ _ | (left; simp; done) | (right; simp; done) | (right; dsimp only; omega) | (left; dsimp only; omega))), b1.set4⟩ ?_
          intro W9 ⟨hq9, b9⟩
          clear d0 d1 d2 d3 e0 e1 e2 e3
          have d0 := b9.cell 0 rfl
          have d1 := b9.cell 1 rfl
          have d2 := b9.cell 2 rfl
          have d3 := b9.cell 3 rfl
          exact bodyPost_ret (v := .tuple #[pV false 0 (.slice none 0 0) false, i6 2]) (by simp [results, Try.results25, go_sem, d0, d1, d2, d3]) rfl (by first | exact ⟨Or.inr ⟨hkk, rfl⟩, hq9⟩ | exact ⟨rfl, hq9⟩)
end Go.Proofs.Ytlaejolgjchfcaa
