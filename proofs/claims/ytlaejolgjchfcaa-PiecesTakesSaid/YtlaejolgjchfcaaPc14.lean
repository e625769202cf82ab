/- Layer 42: rows of pieces, by the document; PiecesCodes' walk. -/
import Derived.Test.YtlaejolgjchfcaaPc13
namespace Go.Proofs.Ytlaejolgjchfcaa
open Go Go.RowKit
set_option linter.unusedSimpArgs false
set_option linter.unusedVariables false
set_option maxRecDepth 100000 in
set_option maxHeartbeats 4000000 in
theorem rcode_any (a : Bool) (t : Int) (da : Option Addr) (cap : Nat) (l : Bool) (us : List Int) (w : World) (hv : IsI w (.slice da us.length cap) us) (hno : da = none → cap = 0) (hl : us.length ≤ 1000000) :
    Calls Try.prog 24 #[pV a t (.slice da us.length cap) l] w fun e w' => ∃ v, e = .returned v ∧ IsI w' v (codeL (kindZ a t us.length l (numsB us)) t us) ∧ Below w.heap.size w w' := by
  obtain ⟨i0, hi, hz0, hz1, hz2⟩ := info_parts info_i64
  have HV := Lib.hid hv
  clear hv
  go_enter Try.func24, Try.ntmps24
  go_wp2_with fail
  refine calls_world (fun W => Below w.heap.size w W ∧ Blk W w.heap.size [.bool a, i6 t, .slice da us.length cap, .bool l]) ⟨by (repeat' (first | with_reducible exact Below.refl _ _ | with_reducible assumption | with_reducible refine q_alloc ?_ _ | with_reducible refine q_drew ?_ | with_reducible refine q_drewN _ ?_ | with_reducible refine q_setCell ?_ ?_ _ | (left; simp; done) | (right; simp; done) | (right; dsimp only; omega) | (left; dsimp only; omega))), Blk.new rfl⟩ ?_
  intro W1 ⟨hq1, b0⟩
  refine (rkind_any a t (.slice da us.length cap) l us _ (HV.out.below hq1) hl).mono ?_
  rintro e w2 ⟨rfl, hb⟩
  rw [kind_meet]
  replace b0 := b0.below hb
  have hq := q_step hq1 hb
  clear hb hq1
  obtain ⟨k, hk⟩ : ∃ k, kindZ a t us.length l (numsB us) = k := ⟨_, rfl⟩
  rw [hk]
  have HK := Lib.hid hk
  clear hk
  have c1 := b0.cell 1 rfl
  have c2 := b0.cell 2 rfl
  have z0 := b0.lt
  by_cases hk0 : k < 0
  · go_wp2_with fail
    go_returns
    exact ⟨_, rfl, by rw [HK.out]; unfold codeL; rw [if_pos hk0]; exact Or.inl ⟨_, _, rfl, rfl⟩, hq⟩
  · have hlit := own_lit2 w2 w2.heap.size k t (Nat.le_refl _)
    have hin : IsInts (w2.alloc (.cells #[i6 k, i6 t] 2)) .i64 (.slice da us.length cap) us := isI_ints (HV.out.below (q_alloc hq _))
    have HIN := Lib.hid hin
    have HNO := Lib.hid hno
    have HLI := Lib.hid hlit
    clear hin hno hlit
    go_wp2_with (first | (at_builtin; refine wpList_append_ints rfl _ _ 22 rfl w2.heap.size 2 i0 (i6 0) 8 .i64 und_i64s hi hz0 hz1 hz2 rfl (.slice (some ⟨w2.heap.size, 0, none⟩) 2 2) 2 [i6 k, i6 t] rfl HLI.out da us.length cap us rfl HIN.out rfl HNO.out ?c1 ?c2 ?c3 ?_))
    case c1 => unfold maxLen; omega
    case c2 => omega
    case c3 => simp
    intro v' w9 hown hgr _
    have hq9 : Below w.heap.size w w9 := (hq.alloc hq.size _).grown hgr (by have := hq.size; simp; omega) (fun j hj => by have := (HLI.out.lt j hj).1; have := hq.size; omega)
    have hI : IsI w9 v' (k :: t :: us) := ownL_is (B := w2.heap.size) (by
      have e1 : (k :: t :: us).length = 2 + us.length := by simp; omega
      unfold OwnL
      rw [e1]
      exact hown)
    clear hown hgr
    go_wp2_with fail
    go_returns
    have hfin : IsI w9 v' (codeL (kindZ a t us.length l (numsB us)) t us) := by rw [HK.out]; unfold codeL; rw [if_neg (by omega)]; exact hI
    exact ⟨v', rfl, hfin, hq9⟩

theorem kind_ab {a l ok : Bool} {t : Int} {n : Nat} (h : 0 ≤ kindZ a t n l ok) : a = readA (kindZ a t n l ok) ∧ l = readB (kindZ a t n l ok) ∧ kindZ a t n l ok ≤ 3 := by
  unfold kindZ at h ⊢
  unfold readA readB
  cases a <;> cases l <;> simp at h ⊢ <;> (repeat' split at h) <;> simp_all
set_option maxRecDepth 100000 in
set_option maxHeartbeats 8000000 in
theorem lcodes_any (a : Bool) (t : Int) (da : Option Addr) (cap : Nat) (l : Bool) (us : List Int) (w : World) (hv : IsI w (.slice da us.length cap) us) (hno : da = none → cap = 0) :
    Calls Try.prog 5 #[pV a t (.slice da us.length cap) l] w fun e w' => e = .returned (.bool true) ∧ Below w.heap.size w w' := by
  by_cases hl : us.length ≤ 300
  · have hln : ¬ (300 : Int) < (us.length : Int) := by omega
    have hm : us.length ≤ 1000000 := by omega
    have hm9 : us.length ≤ 900000 := by omega
    have HV := Lib.hid hv
    have HNO := Lib.hid hno
    clear hv hno hl
    go_enter Try.func5, Try.ntmps5
    go_wp2_with fail
    refine (code_any a t da cap l us _ (HV.out.below (by (repeat' (first | with_reducible exact Below.refl _ _ | with_reducible assumption | with_reducible refine q_alloc ?_ _ | with_reducible refine q_drew ?_ | with_reducible refine q_drewN _ ?_ | with_reducible refine q_setCell ?_ ?_ _ | (left; simp; done) | (right; simp; done) | (right; dsimp only; omega) | (left; dsimp only; omega))))) HNO.out hm).mono ?_
    rintro e w1 ⟨v1, rfl, hi1, hb1⟩
    have hq1 : Below w.heap.size w w1 := q_step (by (repeat' (first | with_reducible exact Below.refl _ _ | with_reducible assumption | with_reducible refine q_alloc ?_ _ | with_reducible refine q_drew ?_ | with_reducible refine q_drewN _ ?_ | with_reducible refine q_setCell ?_ ?_ _ | (left; simp; done) | (right; simp; done) | (right; dsimp only; omega) | (left; dsimp only; omega)))) hb1
    have hd1 : Blk w1 w.heap.size [.bool a, i6 t, .slice da us.length cap, .bool l] := Blk.below (Blk.new rfl) hb1
    have d0 := hd1.cell 0 rfl
    have d1 := hd1.cell 1 rfl
    have d2 := hd1.cell 2 rfl
    have d3 := hd1.cell 3 rfl
    have HD := Lib.hid hd1
    have HI1 := Lib.hid hi1
    clear hi1 hb1 hd1
    go_wp2_with fail
    refine (of_any a t (.slice da us.length cap) l _ ⟨_, _, _, rfl⟩).mono ?_
    rintro e w2 ⟨rfl, hb2⟩
    have hq2 := q_step hq1 hb2
    have HD2 := Lib.hid (HD.out.below hb2)
    have HI2 := Lib.hid (HI1.out.below hb2)
    clear hb2 HD HI1 hq1 d0 d1 d2 d3
    go_wp2_with fail
    refine (rcode_any a t da cap l us _ (HV.out.below hq2) HNO.out hm).mono ?_
    rintro e w3 ⟨v3, rfl, hi3, hb3⟩
    have hq3 := q_step hq2 hb3
    have HD3 := Lib.hid (HD2.out.below hb3)
    have HI3 := Lib.hid (HI2.out.below hb3)
    have HJ3 := Lib.hid hi3
    clear hb3 HD2 HI2 hq2 hi3
    obtain ⟨K, hK⟩ : ∃ K, kindZ a t us.length l (numsB us) = K := ⟨_, rfl⟩
    rw [hK] at HI3 HJ3
    have hab := fun h => kind_ab (a := a) (l := l) (ok := numsB us) (t := t) (n := us.length) h
    rw [hK] at hab
    have HK := Lib.hid hK
    have HAB := Lib.hid hab
    clear hK hab
    have hcl : (codeL K t us).length ≤ 1000000 := by
      unfold codeL
      split
      · simp
      · simp; omega
    have HCL := Lib.hid hcl
    clear hcl
    go_wp2_with fail
    refine (same_eq _ _ (codeL K t us) _ HI3.out HJ3.out HCL.out).mono ?_
    rintro e w4 ⟨rfl, hb4⟩
    have hq4 := q_step hq3 hb4
    have HD4 := Lib.hid (HD3.out.below hb4)
    have HI4 := Lib.hid (HI3.out.below hb4)
    clear hb4 HD3 HI3 HJ3 hq3
    by_cases hk0 : K < 0
    · have hi := HI4.out
      unfold codeL at hi
      rw [if_pos hk0] at hi
      obtain ⟨a1, c1, rfl, _⟩ := isI_form hi
      clear hi
      go_wp2_with fail
      refine (awake42 _).mono ?_
      rintro e w5 ⟨rfl, hb5⟩
      go_wp2_with fail
      go_returns
      exact ⟨by first | rfl | (simp; done), q_step hq4 hb5⟩
    · obtain ⟨ha, hlb, h3⟩ := HAB.out (by omega)
      have hi := HI4.out
      unfold codeL at hi
      rw [if_neg hk0] at hi
      obtain ⟨a1, c1, rfl, _⟩ := isI_form hi
      have hkk : kindZ (readA K) t us.length (readB K) (numsB us) = K := by rw [← ha, ← hlb]; exact HK.out
      have HI := Lib.hid hi
      have HKK := Lib.hid hkk
      have HA := Lib.hid ha
      have HB := Lib.hid hlb
      have e0 : (((K :: t :: us).length : Int) == 0) = false := by simp; omega
      clear hi hkk HI4 HAB HK
      have HK0 := Lib.hid hk0
      have HK3 := Lib.hid h3
      generalize hrow : (K :: t :: us).length = nrow at HI e0 ⊢
      clear hk0 h3 hrow ha hlb
      go_wp2_with fail
      refine (read_ok (.slice a1 nrow c1) K t us _ HI.out hm9 (by have := HK0.out; omega) HK3.out).mono ?_
      rintro e w5 ⟨hor, hb5⟩
      obtain ⟨pv, rfl, hpi, g, rfl⟩ : ∃ pv, e = .returned (.tuple #[pV (readA K) t pv (readB K), i6 0]) ∧ IsI w5 pv us ∧ ∃ g, pv = .slice (some ⟨g, 0, none⟩) us.length us.length := by
        rcases hor with ⟨_, pv, h1, h2, g, h3⟩ | ⟨h, _⟩
        · exact ⟨pv, h1, h2, g, h3⟩
        · exact absurd HKK.out h
      rw [← HA.out, ← HB.out]
      have hq5 := q_step hq4 hb5
      have HD5 := Lib.hid (HD4.out.below hb5)
      have HPI := Lib.hid hpi
      clear hor hb5 HD4 hq4 hpi HI
      go_upto_region 9 with fail
      refine code_world (fun W => Below w.heap.size w W ∧ Blk W w.heap.size [.bool a, i6 t, .slice da us.length cap, .bool l] ∧ Blk W w5.heap.size [.bool a, i6 t, .slice (some ⟨g, 0, none⟩) us.length us.length, .bool l] ∧ IsI W (.slice (some ⟨g, 0, none⟩) us.length us.length) us) ⟨by (repeat' (first | with_reducible exact Below.refl _ _ | with_reducible assumption | with_reducible refine q_alloc ?_ _ | with_reducible refine q_drew ?_ | with_reducible refine q_drewN _ ?_ | with_reducible refine q_setCell ?_ ?_ _ | (left; simp; done) | (right; simp; done) | (right; dsimp only; omega) | (left; dsimp only; omega))), HD5.out.below (by (repeat' (first | with_reducible exact Below.refl _ _ | with_reducible assumption | with_reducible refine q_alloc ?_ _ | with_reducible refine q_drew ?_ | with_reducible refine q_drewN _ ?_ | with_reducible refine q_setCell ?_ ?_ _ | (left; simp; done) | (right; simp; done) | (right; dsimp only; omega) | (left; dsimp only; omega)))), Blk.new rfl, HPI.out.below (by (repeat' (first | with_reducible exact Below.refl _ _ | with_reducible assumption | with_reducible refine q_alloc ?_ _ | with_reducible refine q_drew ?_ | with_reducible refine q_drewN _ ?_ | with_reducible refine q_setCell ?_ ?_ _ | (left; simp; done) | (right; simp; done) | (right; dsimp only; omega) | (left; dsimp only; omega))))⟩ ?_
      intro W2 ⟨J3, b1, b2, i2⟩
      clear hq5 HD5 HPI
      generalize w5.heap.size = g2 at b2 ⊢
      have r0 := stick (b1.cell 0 rfl)
      have r1 := stick (b1.cell 1 rfl)
      have r2 := stick (b1.cell 2 rfl)
      have r3 := stick (b1.cell 3 rfl)
      have s0 := stick (b2.cell 0 rfl)
      have s1 := stick (b2.cell 1 rfl)
      have s2 := stick (b2.cell 2 rfl)
      have s3 := stick (b2.cell 3 rfl)
      have HI2 := Lib.hid i2
      have HJ := Lib.hid J3
      have J : Below W2.heap.size W2 W2 := Below.refl _ _
      clear b1 b2 i2 J3
      go_region_held3 (fun w' => Below W2.heap.size W2 w')
        (first | exact J | exact J.drew | exact q_alloc J _ | exact q_alloc J.drew _ | (exact by (repeat' (first | with_reducible exact Below.refl _ _ | with_reducible assumption | with_reducible refine q_alloc ?_ _ | with_reducible refine q_drew ?_ | with_reducible refine q_drewN _ ?_ | with_reducible refine q_setCell ?_ ?_ _ | (left; simp; done) | (right; simp; done) | (right; dsimp only; omega) | (left; dsimp only; omega)))))
        (first
          | (go_at_call 16; refine (of_any a t _ l _ ⟨_, _, _, rfl⟩).mono ?_; rintro e w5 ⟨rfl, hb⟩; have J5 : Below W2.heap.size W2 w5 := q_step (by first | exact J | exact J.drew | exact q_alloc J _ | exact q_alloc J.drew _ | (exact by (repeat' (first | with_reducible exact Below.refl _ _ | with_reducible assumption | with_reducible refine q_alloc ?_ _ | with_reducible refine q_drew ?_ | with_reducible refine q_drewN _ ?_ | with_reducible refine q_setCell ?_ ?_ _ | (left; simp; done) | (right; simp; done) | (right; dsimp only; omega) | (left; dsimp only; omega))))) hb; replace J := J5; clear J5 hb)
          | (go_at_call 15; refine (sameP_any a t (.slice (some ⟨g, 0, none⟩) us.length us.length) (.slice da us.length cap) l us _ ?_ ?_ hm).mono ?_; (exact HI2.out.below (by first | exact J | exact J.drew | exact q_alloc J _ | exact q_alloc J.drew _ | (exact by (repeat' (first | with_reducible exact Below.refl _ _ | with_reducible assumption | with_reducible refine q_alloc ?_ _ | with_reducible refine q_drew ?_ | with_reducible refine q_drewN _ ?_ | with_reducible refine q_setCell ?_ ?_ _ | (left; simp; done) | (right; simp; done) | (right; dsimp only; omega) | (left; dsimp only; omega)))))); (exact HV.out.below (q_step HJ.out (by first | exact J | exact J.drew | exact q_alloc J _ | exact q_alloc J.drew _ | (exact by (repeat' (first | with_reducible exact Below.refl _ _ | with_reducible assumption | with_reducible refine q_alloc ?_ _ | with_reducible refine q_drew ?_ | with_reducible refine q_drewN _ ?_ | with_reducible refine q_setCell ?_ ?_ _ | (left; simp; done) | (right; simp; done) | (right; dsimp only; omega) | (left; dsimp only; omega))))))); rintro e w5 ⟨rfl, hb⟩; have J5 : Below W2.heap.size W2 w5 := q_step (by first | exact J | exact J.drew | exact q_alloc J _ | exact q_alloc J.drew _ | (exact by (repeat' (first | with_reducible exact Below.refl _ _ | with_reducible assumption | with_reducible refine q_alloc ?_ _ | with_reducible refine q_drew ?_ | with_reducible refine q_drewN _ ?_ | with_reducible refine q_setCell ?_ ?_ _ | (left; simp; done) | (right; simp; done) | (right; dsimp only; omega) | (left; dsimp only; omega))))) hb; replace J := J5; clear J5 hb)
          | (go_at_call 10; refine (awake42 _).mono ?_; rintro e w5 ⟨rfl, hb⟩; have J5 : Below W2.heap.size W2 w5 := q_step (by first | exact J | exact J.drew | exact q_alloc J _ | exact q_alloc J.drew _ | (exact by (repeat' (first | with_reducible exact Below.refl _ _ | with_reducible assumption | with_reducible refine q_alloc ?_ _ | with_reducible refine q_drew ?_ | with_reducible refine q_drewN _ ?_ | with_reducible refine q_setCell ?_ ?_ _ | (left; simp; done) | (right; simp; done) | (right; dsimp only; omega) | (left; dsimp only; omega))))) hb; replace J := J5; clear J5 hb))
      all_goals (go_wp2_with fail; go_returns; exact ⟨by first | rfl | (simp; done), q_step HJ.out (by (repeat' (first | with_reducible exact Below.refl _ _ | with_reducible assumption | with_reducible refine q_alloc ?_ _ | with_reducible refine q_drew ?_ | with_reducible refine q_drewN _ ?_ | with_reducible refine q_setCell ?_ ?_ _ | (left; simp; done) | (right; simp; done) | (right; dsimp only; omega) | (left; dsimp only; omega))))⟩)
  · have hln : (300 : Int) < (us.length : Int) := by omega
    clear hl
    go_enter Try.func5, Try.ntmps5
    go_wp2_with fail
    refine (awake42 _).mono ?_
    rintro e w7 ⟨rfl, hb7⟩
    go_wp2_with fail
    go_returns
    exact ⟨by first | rfl | (simp; done), q_step (by (repeat' (first | with_reducible exact Below.refl _ _ | with_reducible assumption | with_reducible refine q_alloc ?_ _ | with_reducible refine q_drew ?_ | with_reducible refine q_drewN _ ?_ | with_reducible refine q_setCell ?_ ?_ _ | (left; simp; done) | (right; simp; done) | (right; dsimp only; omega) | (left; dsimp only; omega)))) hb7⟩
end Go.Proofs.Ytlaejolgjchfcaa
