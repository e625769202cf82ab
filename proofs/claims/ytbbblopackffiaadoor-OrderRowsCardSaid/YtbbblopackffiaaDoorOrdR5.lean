/- Layer 1: the document's answers: the numbers of bytes. -/
import Derived.Test.YtbbblopackffiaaDoorOrdR4
namespace Go.Proofs.YtbbblopackffiaaDoor
open Go Go.RowKit
set_option linter.unusedSimpArgs false
set_option linter.unusedVariables false

set_option maxRecDepth 100000 in
theorem rrows_long (od s n lo hi : Int) (b : ByteArray) (w : World) (ho : od = 0 ∨ od = 1) (h : IsSpan s n lo hi) (hl : 262144 < b.size) :
    Calls Tryd.prog 25 #[i6 od, i6 s, .string b] w fun e w' => e = .returned (nilErr 4) ∧ Below w.heap.size w w' := by
  have hb : decide ((262144 : Int) < (b.size : Int)) = true := decide_eq_true (by omega)
  have HN := Lib.hid h
  clear h
  go_enter Tryd.func25, Tryd.ntmps25
  go_wp2_with fail
  refine (rput_zero _ ho HN.out).mono ?_
  rintro e w1 ⟨rfl, hq⟩
  go_wp2_with fail
  go_returns
  exact ⟨by first | rfl | (simp; done), hq⟩

set_option maxRecDepth 100000 in
theorem rrows_short (od s n lo hi : Int) (b : ByteArray) (w : World) (ho : od = 0 ∨ od = 1) (h : IsSpan s n lo hi) (hl : b.size ≤ 262144) (hm : ¬ (b.size : Int) % n = 0) :
    Calls Tryd.prog 25 #[i6 od, i6 s, .string b] w fun e w' => e = .returned (nilErr 3) ∧ Below w.heap.size w w' := by
  have hb : decide ((262144 : Int) < (b.size : Int)) = false := decide_eq_false (by omega)
  have hn := h.size
  have hn0 : ¬ n = 0 := by omega
  have hr0 := Int.emod_nonneg (b.size : Int) hn0
  have hr1 := Int.emod_lt_of_pos (b.size : Int) (show 0 < n by omega)
  have f1 : (b.size : Int).tmod n = (b.size : Int) % n := by rw [Int.tmod_eq_emod_of_nonneg (by omega)]
  have f2 : IntKind.i64.wrap ((b.size : Int) % n) = (b.size : Int) % n := IntWalk.i64_in _ (by omega)
  have HN := Lib.hid h
  clear h
  go_enter Tryd.func25, Tryd.ntmps25
  go_wp2_with fail
  refine (rput_zero _ ho HN.out).mono ?_
  rintro e w1 ⟨rfl, hq⟩
  go_wp2_with fail
  refine (rsize_ok HN.out _).mono ?_
  rintro e w2 ⟨rfl, rfl⟩
  go_wp2_with fail
  go_returns
  exact ⟨by first | rfl | (simp; done), hq⟩

theorem decRow_map (od lo hi : Int) (m : Nat) (xs : List Int) (k : Nat) : (decRow od lo hi m xs (k + 1)).map i6 = (decRow od lo hi m xs k).map i6 ++ [i6 (dec od lo hi ((xs.drop (k * m)).take m))] := by
  rw [decRow_step, List.map_append]; rfl

set_option maxRecDepth 100000 in
set_option maxHeartbeats 2000000 in
theorem rrows_ok (od s n lo hi : Int) (m c : Nat) (xs : List Int) (w : World) (ho : od = 0 ∨ od = 1) (h : IsSpan s n lo hi) (hx : IsBytes xs) (hm : (m : Int) = n) (hc : xs.length = c * m) (hl : xs.length ≤ 262144) :
    Calls Tryd.prog 25 #[i6 od, i6 s, .string (strOfNums xs)] w fun e w' => ∃ v, e = .returned (.tuple #[v, i6 0]) ∧ OwnL w' w.heap.size v (decRow od lo hi m xs c) ∧ Below w.heap.size w w' := by
  obtain ⟨i0, hi0, hz0, hz1, hz2⟩ := info_parts' info_i64
  have hsz : (strOfNums xs).size = c * m := by rw [strOfNums_size, hc]
  have hn := h.size
  have hn0 : ¬ n = 0 := by omega
  have hm0 : 0 < m := by omega
  obtain ⟨L, hL⟩ : ∃ L, c * m = L := ⟨_, rfl⟩
  rw [hL] at hsz hc
  have hcL : c ≤ L := by rw [← hL]; exact Nat.le_mul_of_pos_right c hm0
  have hlL : L ≤ 262144 := by omega
  have hLn : (L : Int) = (c : Int) * n := by rw [← hm, ← hL, Int.natCast_mul]
  have f1 : (L : Int).tmod n = 0 := by rw [Int.tmod_eq_emod_of_nonneg (by omega), hLn]; exact Int.mul_emod_left _ _
  have hb : decide ((262144 : Int) < (L : Int)) = false := decide_eq_false (by omega)
  have HX := Lib.hid hx
  have HN := Lib.hid h
  have HC := Lib.hid hc
  have HLn := Lib.hid hLn
  have HL := Lib.hid hL
  clear h hx hc hLn hL
  go_enter Tryd.func25, Tryd.ntmps25
  go_wp2_with fail
  refine (rput_zero _ ho HN.out).mono ?_
  rintro e w1 ⟨rfl, hq⟩
  go_wp2_with fail
  refine (rsize_ok HN.out _).mono ?_
  rintro e w2 ⟨rfl, rfl⟩
  go_wp2_with fail
  go_loopw [11, 12] (fun v i wr => ∃ k P : Nat, k ≤ c ∧ P = k * m ∧ i = .int .i64 P ∧ wr.ownsRow w.heap.size 2 1 v k ((decRow od lo hi m xs k).map i6) ∧ Below w.heap.size w wr)
    (fun _ i _ => L - (intOf i).toNat)
  case atStart => exact ⟨0, 0, Nat.zero_le _, by omega, rfl, World.ownsRow_nil _ _ _ _, hq⟩
  case round =>
    clear hq f1 hb
    obtain ⟨k, P, hk, hP, rfl, hown, hnx⟩ := hrel
    by_cases hlt : k < c
    · have hPL : P + m ≤ L := by
        have : (k + 1) * m ≤ c * m := Nat.mul_le_mul_right m hlt
        rw [Nat.add_mul, Nat.one_mul, HL.out] at this
        omega
      have hP1 := Lib.hid (show P + m = (k + 1) * m by rw [Nat.add_mul, Nat.one_mul, hP])
      have hmn : ((P + m : Nat) : Int) = (P : Int) + n := by rw [← hm]; omega
      have hmn2 := Lib.hid hmn
      clear hmn
      have hw3 : IntKind.i64.wrap ((P : Int) + n) = (P : Int) + n := IntWalk.i64_in _ (by omega)
      have hsl := fun ww => run_slice_string (P := Tryd.prog) ww 9 (strOfNums xs) .i64 .i64 (P : Int) ((P : Int) + n) und_string (by omega) (by omega) (by rw [hsz]; omega)
      have hto : ((P : Int) + n).toNat - P = m := by omega
      have hpc : ((xs.drop P).take m).length = m := by rw [List.length_take, List.length_drop, HC.out]; omega
      rw [str_extract, Int.toNat_natCast, hto] at hsl
      have hstep := decRow_map od lo hi m xs k
      rw [← hP] at hstep
      have hpb : IsBytes ((xs.drop P).take m) := (HX.out.drop P).take m
      generalize (xs.drop P).take m = ys at hsl hpc hstep hpb
      have HB := Lib.hid hpb
      have HT := Lib.hid hstep
      have HR := Lib.hid (show getRes od n lo hi ys = .tuple #[i6 (dec od lo hi ys), i6 0] by unfold getRes; rw [if_neg (by omega), if_neg (by omega)])
      clear hpb hstep hto hP
      have hlt2 : (P : Int) < (L : Int) := by omega
      have hlt3 : decide ((P : Int) < (L : Int)) = true := decide_eq_true (by omega)
      go_wp2_with fail
      refine (rget_ok' od s n lo hi ys _ ho HN.out HB.out _ HR.out).mono ?_
      rintro e w3 ⟨rfl, hb3⟩
      have hq3 := q_step hnx hb3
      have hown3 : w3.ownsRow w.heap.size 2 1 u11 k ((decRow od lo hi m xs k).map i6) := by
        have := ownL_below (us := decRow od lo hi m xs k) (by unfold OwnL; rw [decRow_length]; exact hown) hb3
        unfold OwnL at this; rwa [decRow_length] at this
      clear hown hb3
      go_wp2_with (first
        | (at_builtin; refine wpList_append_own _ rfl _ _ 36 rfl w.heap.size 2 i0 (.int .i64 0) 1 8 und_i64s hi0 hz0 hz1 hz2 rfl (by decide) _ _ _ rfl (hown3.alloc _) ⟨w3.heap.size, 0, none⟩ 1 1 [i6 (dec od lo hi ys)] rfl rfl ?c1 ?c2 ?c3 ?c4 ?c5 ?_)
        | go_in)
      case c1 =>
        intro j u hj
        match j, hj with
        | 0, hj => simp at hj; subst hj; exact cell_new rfl
      case c2 => intro u hu; simp at hu; subst hu; rfl
      case c3 => unfold maxLen; omega
      case c4 => omega
      case c5 => have := hq3.size; simp; omega
      intro v' w4 hown' hgrow _
      have hb1 : Below w.heap.size w w4 := (hq3.alloc hq3.size _).grown hgrow (by have := hq3.size; simp; omega) (fun j hj => (hown3.lt j hj).1)
      have hown2 : w4.ownsRow w.heap.size 2 1 v' (k + 1) ((decRow od lo hi m xs (k + 1)).map i6) := by
        rw [HT.out]; exact hown'
      clear hown' hgrow hown3 hnx
      go_wp2_with fail
      go_roundw
      case rel => exact ⟨k + 1, P + m, by omega, hP1.out, by rw [hmn2.out], hown2, hb1⟩
      case measure => simp [intOf]; omega
    · have hkc : k = c := by omega
      subst hkc
      have hPL : P = L := by rw [hP]; exact HL.out
      subst hPL
      have hown2 : OwnL wr w.heap.size u11 (decRow od lo hi m xs k) := by unfold OwnL; rw [decRow_length]; exact hown
      clear hP
      go_wp2_with fail
      go_returns
      exact ⟨_, by first | rfl | (simp; done), hown2, hnx⟩
end Go.Proofs.YtbbblopackffiaaDoor
