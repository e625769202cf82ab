import Derived.Test.YtligdolhokjgmaaDoorRop5
import Derived.LoopTactic
namespace Go.Proofs.YtligdolhokjgmaaDoor
open Go Go.RowKit

theorem groups_out (a b c : Int) (w : World) (hs : RowAt 0 nameCells w) (h : ¬ ((0 ≤ a ∧ a < 16) ∧ (0 ≤ b ∧ b < 16) ∧ (0 ≤ c ∧ c < 16))) :
    Calls Tryd.prog 9 #[.int .i64 a, .int .i64 b, .int .i64 c] w fun e w' => e = .returned (.bool true) ∧ Below w.heap.size w w' := by
  by_cases ha : 0 ≤ a ∧ a < 16
  · by_cases hb : 0 ≤ b ∧ b < 16
    · have hc : c < 0 ∨ 16 ≤ c := by omega
      clear h
      go_enter Tryd.func9, Tryd.ntmps9
      go_wp2_with fail
      refine (awake_any _ hs).mono ?_
      rintro e w1 ⟨rfl, hq⟩
      clear hs
      go_wp2_with fail
      refine (is_any a _ ha.1 ha.2).mono ?_
      rintro e w1 ⟨rfl, rfl⟩
      go_wp2_with fail
      refine (is_any b _ hb.1 hb.2).mono ?_
      rintro e w1 ⟨rfl, rfl⟩
      go_wp2_with fail
      refine (is_out c _ hc).mono ?_
      rintro e w1 ⟨rfl, rfl⟩
      go_wp2_with fail
      go_returns
      exact ⟨rfl, hq⟩
    · have hc : b < 0 ∨ 16 ≤ b := by omega
      clear h hb
      go_enter Tryd.func9, Tryd.ntmps9
      go_wp2_with fail
      refine (awake_any _ hs).mono ?_
      rintro e w1 ⟨rfl, hq⟩
      clear hs
      go_wp2_with fail
      refine (is_any a _ ha.1 ha.2).mono ?_
      rintro e w1 ⟨rfl, rfl⟩
      go_wp2_with fail
      refine (is_out b _ hc).mono ?_
      rintro e w1 ⟨rfl, rfl⟩
      go_wp2_with fail
      go_returns
      exact ⟨rfl, hq⟩
  · have hc : a < 0 ∨ 16 ≤ a := by omega
    clear h ha
    go_enter Tryd.func9, Tryd.ntmps9
    go_wp2_with fail
    refine (awake_any _ hs).mono ?_
    rintro e w1 ⟨rfl, hq⟩
    clear hs
    go_wp2_with fail
    refine (is_out a _ hc).mono ?_
    rintro e w1 ⟨rfl, rfl⟩
    go_wp2_with fail
    go_returns
    exact ⟨rfl, hq⟩

theorem groups_any (a b c : Int) (w : World) (hs : RowAt 0 nameCells w) :
    Calls Tryd.prog 9 #[.int .i64 a, .int .i64 b, .int .i64 c] w fun e w' => e = .returned (.bool true) ∧ Below w.heap.size w w' := by
  by_cases h : (0 ≤ a ∧ a < 16) ∧ (0 ≤ b ∧ b < 16) ∧ (0 ≤ c ∧ c < 16)
  · exact groups_in a b c w hs h.1.1 h.1.2 h.2.1.1 h.2.1.2 h.2.2.1 h.2.2.2
  · exact groups_out a b c w hs h

theorem lthen_any (a b : Int) (s d p : BitVec 8) (w : World) (hs : RowAt 0 nameCells w) :
    Calls Tryd.prog 5 #[.int .i64 a, .int .i64 b, u8v s, u8v d, u8v p] w fun e w' => e = .returned (.bool true) ∧ Below w.heap.size w w' := by
  by_cases h : (0 ≤ a ∧ a < 16) ∧ (0 ≤ b ∧ b < 16)
  · exact lthen_in a b s d p w hs h.1.1 h.1.2 h.2.1 h.2.2
  · exact lthen_out a b s d p w hs (by omega)

theorem turns_any (op : Int) (s d : BitVec 8) (w : World) (hs : RowAt 0 nameCells w) :
    Calls Tryd.prog 8 #[.int .i64 op, u8v s, u8v d] w fun e w' => e = .returned (.bool true) ∧ Below w.heap.size w w' := by
  by_cases h : 0 ≤ op ∧ op < 16
  · exact turns_in op s d w hs h.1 h.2
  · exact turns_out op s d w hs (by omega)

def fbA (op : Int) (s d : Bool) : Bool := if 0 ≤ op ∧ op < 16 then fb op.toNat s d else d

theorem rbit_any (op : Int) (s d : Bool) (w : World) :
    Calls Tryd.prog 14 #[.int .i64 op, .bool s, .bool d] w fun e w' => e = .returned (.bool (fbA op s d)) ∧ w = w' := by
  by_cases h : 0 ≤ op ∧ op < 16
  · unfold fbA; rw [if_pos h]; exact rbit_in op s d w h.1 h.2
  · unfold fbA; rw [if_neg h]; exact rbit_out op s d w (by omega)

theorem pbit_any (op : Int) (s d : Bool) (w : World) :
    Calls Tryd.prog 13 #[.int .i64 op, .bool s, .bool d] w fun e w' => e = .returned (.bool (fbA op s d)) ∧ w = w' := by
  by_cases h : 0 ≤ op ∧ op < 16
  · unfold fbA; rw [if_pos h]; exact bit_in op s d w h.1 h.2
  · unfold fbA; rw [if_neg h]; exact bit_out op s d w (by omega)

theorem bitk (op : Int) (s d p : BitVec 8) (k : Nat) (hk : k < 8) :
    (((mixA op s d p).toNat / 2 ^ k % 2 : Nat) : Int) = (if ((p.toNat / 2 ^ k : Nat) : Int) % 2 == 1 then (if fbA op (((s.toNat / 2 ^ k : Nat) : Int) % 2 == 1) (((d.toNat / 2 ^ k : Nat) : Int) % 2 == 1) then 1 else 0) else (if ((d.toNat / 2 ^ k : Nat) : Int) % 2 == 1 then 1 else 0)) := by
  have H : ∀ x : BitVec 8, (((x.toNat / 2 ^ k : Nat) : Int) % 2 == 1) = x[k] := by
    intro x
    rw [BitVec.getElem_eq_testBit_toNat, Nat.testBit_eq_decide_div_mod_eq, Bool.eq_iff_iff, beq_iff_eq, decide_eq_true_eq]
    omega
  have hm := H (mixA op s d p)
  rw [mixA_get op s d p k hk] at hm
  rw [H p, H s, H d]
  unfold fbA
  have h2 : (((mixA op s d p).toNat / 2 ^ k % 2 : Nat) : Int) = if (((mixA op s d p).toNat / 2 ^ k : Nat) : Int) % 2 == 1 then 1 else 0 := by
    generalize (mixA op s d p).toNat / 2 ^ k = q
    rcases Nat.mod_two_eq_zero_or_one q with hq | hq
    · rw [if_neg (by simp; omega)]; omega
    · rw [if_pos (by simp; omega)]; omega
  rw [h2, hm]
  cases p[k] <;> simp

structure MixRel (op : Int) (s d p : BitVec 8) (k S D P A O : Nat) : Prop where
  k8 : k ≤ 8
  es : S = s.toNat / 2 ^ k
  ed : D = d.toNat / 2 ^ k
  ep : P = p.toNat / 2 ^ k
  ea : A = 2 ^ k
  eo : O = (mixA op s d p).toNat % 2 ^ k

theorem MixRel.next {op : Int} {s d p : BitVec 8} {k S D P A O : Nat} (h : MixRel op s d p k S D P A O) (hk : k < 8) (O' : Nat)
    (ho : (O' : Int) = O + A * (if (P : Int) % 2 == 1 then (if fbA op ((S : Int) % 2 == 1) ((D : Int) % 2 == 1) then 1 else 0) else (if (D : Int) % 2 == 1 then 1 else 0))) : MixRel op s d p (k + 1) (S / 2) (D / 2) (P / 2) (2 * A) O' := by
  refine ⟨by omega, ?_, ?_, ?_, ?_, ?_⟩
  · rw [h.es, Nat.div_div_eq_div_mul, Nat.pow_succ]
  · rw [h.ed, Nat.div_div_eq_div_mul, Nat.pow_succ]
  · rw [h.ep, Nat.div_div_eq_div_mul, Nat.pow_succ]
  · rw [h.ea, Nat.pow_succ]; omega
  · have hb := bitk op s d p k hk
    rw [← h.es, ← h.ed, ← h.ep] at hb
    rw [← hb, h.eo, h.ea] at ho
    have : (O' : Int) = (((mixA op s d p).toNat % 2 ^ k + 2 ^ k * ((mixA op s d p).toNat / 2 ^ k % 2) : Nat) : Int) := by
      rw [ho]; push_cast; rfl
    have h3 : O' = (mixA op s d p).toNat % 2 ^ k + 2 ^ k * ((mixA op s d p).toNat / 2 ^ k % 2) := by exact_mod_cast this
    rw [h3, Nat.mod_pow_succ]

theorem MixRel.bounds {op : Int} {s d p : BitVec 8} {k S D P A O : Nat} (h : MixRel op s d p k S D P A O) : S < 256 ∧ D < 256 ∧ P < 256 ∧ A ≤ 256 ∧ O < 256 := by
  have hs := s.isLt; have hd := d.isLt; have hp := p.isLt
  have hm := (mixA op s d p).isLt
  have hA : A ≤ 2 ^ 8 := by rw [h.ea]; exact Nat.pow_le_pow_right (by omega) h.k8
  refine ⟨?_, ?_, ?_, by simpa using hA, ?_⟩
  · rw [h.es]; exact Nat.lt_of_le_of_lt (Nat.div_le_self _ _) hs
  · rw [h.ed]; exact Nat.lt_of_le_of_lt (Nat.div_le_self _ _) hd
  · rw [h.ep]; exact Nat.lt_of_le_of_lt (Nat.div_le_self _ _) hp
  · rw [h.eo]; exact Nat.lt_of_le_of_lt (Nat.mod_le _ _) hm

set_option maxHeartbeats 1000000 in
theorem rmix_any (op : Int) (s d p : BitVec 8) (w : World) :
    Calls Tryd.prog 12 #[.int .i64 op, u8v s, u8v d, u8v p] w fun e w' => e = .returned (u8v (mixA op s d p)) ∧ w = w' := by
  have bs : (s.toNat : Int) < 256 := by have := s.isLt; omega
  have bd : (d.toNat : Int) < 256 := by have := d.isLt; omega
  have bp : (p.toNat : Int) < 256 := by have := p.isLt; omega
  go_enter Tryd.func12, Tryd.ntmps12
  go_wp2
  go_loop [9, 10, 11, 12, 13, 14] (fun o a s' d' p' i => ∃ k S D P A O : Nat, MixRel op s d p k S D P A O ∧ o = .int .i64 O ∧ a = .int .i64 A ∧ s' = .int .i64 S ∧ d' = .int .i64 D ∧ p' = .int .i64 P ∧ i = .int .i64 k) (fun _ _ _ _ _ i => 8 - (intOf i).toNat)
  case atStart => exact ⟨0, s.toNat, d.toNat, p.toNat, 1, 0, ⟨by omega, by simp, by simp, by simp, rfl, by simp; omega⟩, rfl, rfl, rfl, rfl, rfl, rfl⟩
  case round =>
    obtain ⟨k, S, D, P, A, O, hR, rfl, rfl, rfl, rfl, rfl, rfl⟩ := hrel
    have hb := hR.bounds
    have HR := Lib.hid hR
    have hk8 := hR.k8
    clear hR bs bd bp
    obtain ⟨b1, b2, b3, b4, b5⟩ := hb
    by_cases hk : k < 8
    · rcases Bool.eq_false_or_eq_true ((P : Int) % 2 == 1) with hp | hp
      · generalize hx : fbA op ((S : Int) % 2 == 1) ((D : Int) % 2 == 1) = x
        have HX := Lib.hid hx
        cases x
        all_goals
          go_wp2_with (go_at_call 14; refine (rbit_any _ _ _ _).mono ?_; rintro e w' ⟨rfl, rfl⟩)
          go_round
          case rel => exact ⟨k + 1, S / 2, D / 2, P / 2, 2 * A, _, HR.out.next hk _ (by simp only [hp, HX.out]; simp; try rfl), by first | rfl | go_num, by go_num, by go_num, by go_num, by go_num, by go_num⟩
          case measure => simp [intOf]; omega
      · rcases Bool.eq_false_or_eq_true ((D : Int) % 2 == 1) with hd | hd
        all_goals
          go_wp2_with (go_at_call 14; refine (rbit_any _ _ _ _).mono ?_; rintro e w' ⟨rfl, rfl⟩)
          go_round
          case rel => exact ⟨k + 1, S / 2, D / 2, P / 2, 2 * A, _, HR.out.next hk _ (by simp only [hp, hd]; simp; try rfl), by first | rfl | go_num, by go_num, by go_num, by go_num, by go_num, by go_num⟩
          case measure => simp [intOf]; omega
    · go_wp2
      go_returns
      refine ⟨congrArg (fun z => Ending.returned (Value.int .u8 z)) ?_, rfl⟩
      have ho := HR.out.eo
      obtain rfl : k = 8 := by omega
      rw [Nat.mod_eq_of_lt (mixA op s d p).isLt] at ho
      first | (rw [ho]; done) | (simp; omega)
end Go.Proofs.YtligdolhokjgmaaDoor
