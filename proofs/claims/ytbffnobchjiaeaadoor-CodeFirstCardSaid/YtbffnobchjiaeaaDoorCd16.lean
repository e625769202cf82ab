/- Layer 3: forms held against each other; the document's example. -/
import Derived.Test.YtbffnobchjiaeaaDoorCd15
namespace Go.Proofs.YtbffnobchjiaeaaDoor
open Go Go.RowKit
set_option linter.unusedSimpArgs false
set_option linter.unusedVariables false
set_option maxRecDepth 100000 in
set_option maxHeartbeats 4000000 in
theorem same_any (F : F3) (f1 f2 : Value) (w : World) (h1 : IsRow w f1 (F.1.map i6)) (h2 : IsRow w f2 (F.1.map i6)) (hl : F.1.length ≤ 1000) :
    Calls Tryd.prog 16 #[.agg #[f1, .bool F.2.1, i6 F.2.2], .agg #[f2, .bool F.2.1, i6 F.2.2]] w fun e w' => e = .returned (.bool true) ∧ Below w.heap.size w w' := by
  obtain ⟨us, B, n⟩ := F
  dsimp only at h1 h2 hl ⊢
  obtain ⟨A1, c1, rfl, hf1⟩ := h1
  obtain ⟨A2, c2, rfl, hf2⟩ := h2
  rw [List.length_map] at hf1 hf2 ⊢
  have HF1 := Lib.hid hf1
  have HF2 := Lib.hid hf2
  clear hf1 hf2
  obtain ⟨len, hlen⟩ : ∃ len, us.length = len := ⟨_, rfl⟩
  rw [hlen] at HF1 HF2 hl ⊢
  have HN := Lib.hid hlen
  clear hlen
  cases B
  all_goals
    go_enter Tryd.func16, Tryd.ntmps16
    go_wp2_with fail
    refine code_world (fun W => Below w.heap.size w W ∧ Blk W w.heap.size [.slice A1 len c1, .bool _, i6 n] ∧ Blk W (w.heap.size + 1) [.slice A2 len c2, .bool _, i6 n]) ⟨by (repeat' (first | with_reducible exact Below.refl _ _ | with_reducible assumption | with_reducible refine q_alloc ?_ _ | with_reducible refine q_drew ?_ | with_reducible refine q_drewN _ ?_ | with_reducible refine q_setCell ?_ ?_ _ | (left; simp; done) | (right; simp; done) | (right; dsimp only; omega) | (left; dsimp only; omega))), (Blk.new rfl).alloc _, blk_new1 rfl⟩ ?_
    intro W1 ⟨J1, b1, b2⟩
    have x1 := stick (b1.cell 0 rfl)
    have x2 := stick (b2.cell 0 rfl)
    have X1 := Lib.hid x1
    have X2 := Lib.hid x2
    have HJ1 := Lib.hid J1
    have hz := b2.lt
    clear b1 b2 x1 x2 J1
    go_loopw [30] (fun i wr => ∃ k : Nat, k ≤ len ∧ i = .int .i64 k ∧ Below W1.heap.size W1 wr)
      (fun i _ => len - (intOf i).toNat)
    case atStart => exact ⟨0, Nat.zero_le _, rfl, Below.refl _ _⟩
    case round =>
      obtain ⟨k, hk, rfl, J⟩ := hrel
      by_cases hlt : k < len
      · obtain ⟨b, off, rfl, hb, hlay⟩ := HF1.out (by omega)
        obtain ⟨b', off', rfl, hb', hlay'⟩ := HF2.out (by omega)
        obtain ⟨u, hu⟩ : ∃ u, us[k]? = some u := ⟨_, List.getElem?_eq_getElem (by rw [HN.out]; exact hlt)⟩
        have hlk : (us.map i6)[k]? = some (i6 u) := by rw [List.getElem?_map, hu]; rfl
        have J9 := q_step HJ1.out J
        have d0 := cell_below J9 (hlay k _ hlk)
        have d1 := cell_below J9 (hlay' k _ hlk)
        have e1 := X1.out _ J
        have e2 := X2.out _ J
        clear hlay hlay' hlk hu J9
        have hki : (k : Int) < (len : Int) := by omega
        go_wp2_with fail
        go_quiet (fail)
        have J2 : Below W1.heap.size W1 (wr.drewN nq) := q_drewN _ J
        go_wp2_with fail
        go_roundw
        case rel => exact ⟨k + 1, by omega, by go_num, J2⟩
        case measure => simp [intOf] <;> omega
      · obtain rfl : k = len := by omega
        go_wp2_with fail
        go_returns
        exact ⟨by first | rfl | (simp; done), q_step HJ1.out J⟩
theorem noop_is : OfIs [110, 111, 45, 111, 112] 58 := Or.inr ⟨by omega, by omega, by decide +kernel⟩
theorem rep_nine : (formF (reqT 9).2.2).1 = ([4, -2, -2, 2, 2, 1, 1], false, 0) := by decide +kernel
set_option maxRecDepth 100000 in
set_option maxHeartbeats 4000000 in
theorem awake03 (w : World) (ht : RowAt 0 spaceC w) : Calls Tryd.prog 15 #[] w fun e w' => e = .returned (.bool true) ∧ Below w.heap.size w w' := by
  obtain ⟨F, ok, h1, h2, h3, hp, _⟩ := rep_both 9
  obtain rfl := h3 rfl
  have hF : F = ([4, -2, -2, 2, 2, 1, 1], false, 0) := by rw [(h1 rfl).2.2.2]; exact rep_nine
  subst hF
  have HP := Lib.hid (hp w ht)
  clear h1 h2 h3 hp
  have HT := Lib.hid ht
  clear ht
  go_enter Tryd.func15, Tryd.ntmps15
  go_wp2_with fail
  refine HP.out.mono ?_
  rintro e w1 ⟨fv, rfl, hI, hb1⟩
  obtain ⟨fa, fm, fc, rfl⟩ := own_slice hI
  have HR := Lib.hid (IsRow.of_own hI (by simp))
  clear hI
  go_wp2_with fail
  refine (of_any _ _).mono ?_
  rintro e w2 ⟨r, rfl, hr, hb2⟩
  obtain rfl := hr.uniq noop_is
  have hd2 := (Blk.new (w := w1) (cs := #[.slice fa fm fc, .bool false, i6 0]) (t := 24) rfl).below hb2
  have d0 := hd2.cell 0 rfl
  have d1 := hd2.cell 1 rfl
  have d2 := hd2.cell 2 rfl
  have hq2 : Below w.heap.size w w2 := q_step (q_alloc hb1 _) hb2
  have HR2 := Lib.hid (HR.out.below (q_step (q_alloc (Below.refl _ _) _) hb2))
  clear hr hb1
  go_wp2_with fail
  refine (same_any ([4, -2, -2, 2, 2, 1, 1], false, 0) _ _ _ ?_ ?_ (by simp)).mono ?_
  · exact HR2.out.below (by (repeat' (first | with_reducible exact Below.refl _ _ | with_reducible assumption | with_reducible refine q_alloc ?_ _ | with_reducible refine q_drew ?_ | with_reducible refine q_drewN _ ?_ | with_reducible refine q_setCell ?_ ?_ _ | (left; simp; done) | (right; simp; done) | (right; dsimp only; omega) | (left; dsimp only; omega))))
  · exact IsRow.of_lay (LayW.new w2 _ _) rfl
  rintro e w3 ⟨rfl, hb3⟩
  go_wp2_with fail
  go_returns
  exact ⟨by first | rfl | (simp; done), q_step hq2 (q_step (q_alloc (Below.refl _ _) _) hb3)⟩
end Go.Proofs.YtbffnobchjiaeaaDoor
