import Derived.Test.YtligdolhokjgmaaDoorRop4
namespace Go.Proofs.YtligdolhokjgmaaDoor
open Go Go.RowKit

theorem is_any (op : Int) (w : World) (h : 0 ≤ op) (h' : op < 16) :
    Calls Tryd.prog 16 #[.int .i64 op] w fun e w' => e = .returned (.bool true) ∧ w = w' := by
  have hd : decide (op ≤ 15) = true := by simp; omega
  have hd' : decide (0 ≤ op) = true := by simp; omega
  go_enter Tryd.func16, Tryd.ntmps16
  go_wp2
  go_returns
  exact ⟨rfl, rfl⟩

/-- Do the functions k, and a with b behind it, tell the same of the first n of the four pairs of bits? -/
def same4 (k a b : Nat) (n : Nat) : Bool :=
  (n == 0) || ((fb k false false == fb b false (fb a false false)) && ((n == 1) || ((fb k true false == fb b true (fb a true false)) && ((n == 2) || ((fb k false true == fb b false (fb a false true)) && ((n == 3) || (fb k true true == fb b true (fb a true true))))))))

theorem same4_step (k a b m : Nat) (hm : m < 4) (h : same4 k a b m = false) : same4 k a b (m + 1) = false := by
  have hm5 : m = 0 ∨ m = 1 ∨ m = 2 ∨ m = 3 := by omega
  unfold same4 at *
  generalize (fb k false false == fb b false (fb a false false)) = q0 at *
  generalize (fb k true false == fb b true (fb a true false)) = q1 at *
  generalize (fb k false true == fb b false (fb a false true)) = q2 at *
  generalize (fb k true true == fb b true (fb a true true)) = q3 at *
  rcases hm5 with rfl | rfl | rfl | rfl <;> revert h <;> cases q0 <;> cases q1 <;> cases q2 <;> cases q3 <;> simp

theorem same4_then (a b k : Int) (hk : 0 ≤ k) (hk' : k < 16) : same4 k.toNat a.toNat b.toNat 4 = true ↔ k = thenN a b := by
  have H : ∀ k' : Fin 16, ∀ x0 x1 x2 x3 : Bool, ((fb k' false false == x3) && ((fb k' true false == x1) && ((fb k' false true == x2) && (fb k' true true == x0)))) = true ↔ (k'.val : Int) = num4 x0 x1 x2 x3 := by decide
  have := H ⟨k.toNat, by omega⟩ (fb b.toNat true (fb a.toNat true true)) (fb b.toNat true (fb a.toNat true false)) (fb b.toNat false (fb a.toNat false true)) (fb b.toNat false (fb a.toNat false false))
  simp only [Int.toNat_of_nonneg hk] at this
  unfold thenN
  rw [← this]
  simp [same4]

theorem thenN_range (a b : Int) : 0 ≤ thenN a b ∧ thenN a b < 16 := by
  unfold thenN num4
  repeat' split
  all_goals omega

set_option maxHeartbeats 1000000 in
theorem rthen_in (a b : Int) (w : World) (ha : 0 ≤ a) (ha' : a < 16) (hb : 0 ≤ b) (hb' : b < 16) :
    Calls Tryd.prog 21 #[.int .i64 a, .int .i64 b] w fun e w' => e = .returned (.int .i64 (thenN a b)) ∧ w = w' := by
  go_enter Tryd.func21, Tryd.ntmps21
  go_wp2_with (go_at_call 16; refine (is_any _ _ (by omega) (by omega)).mono ?_; rintro e w' ⟨rfl, rfl⟩)
  go_loop [5] (fun k => ∃ n : Nat, n ≤ 16 ∧ k = .int .i64 n ∧ (n : Int) ≤ thenN a b) (fun k => 16 - (intOf k).toNat)
  case atStart => exact ⟨0, by omega, rfl, (thenN_range a b).1⟩
  case round =>
    obtain ⟨n, hn, rfl, hlt⟩ := hrel
    have hn16 : n < 16 := by have := (thenN_range a b).2; omega
    clear hn
    go_wp2
    go_loop [6, 7] (fun al i => ∃ m : Nat, m ≤ 4 ∧ i = .int .i64 m ∧ al = .bool (same4 n a.toNat b.toNat m)) (fun _ i => 4 - (intOf i).toNat)
    case atStart => exact ⟨0, by omega, rfl, rfl⟩
    case round =>
      obtain ⟨m, hm, rfl, rfl⟩ := hrel
      have hst := same4_then a b n (by omega) (by omega)
      rw [Int.toNat_natCast] at hst
      have HST := Lib.hid hst
      clear hst
      have hm5 : m = 0 ∨ m = 1 ∨ m = 2 ∨ m = 3 ∨ m = 4 := by omega
      clear hm
      rcases hm5 with rfl | rfl | rfl | rfl | rfl
      case inr.inr.inr.inr =>
        rcases Bool.eq_false_or_eq_true (same4 n a.toNat b.toNat 4) with hx | hx
        · have hnt : (n : Int) = thenN a b := HST.out.1 hx
          have HN := Lib.hid hnt
          clear hnt
          rw [hx]
          clear hx
          go_wp2
          go_returns
          exact ⟨ret_int HN.out, rfl⟩
        · have hnt : ¬ (n : Int) = thenN a b := fun e => by rw [HST.out.2 e] at hx; cases hx
          rw [hx]
          clear hx
          go_wp2
          go_round
          case rel => exact ⟨n + 1, by omega, by go_num, by omega⟩
          case measure => simp [intOf]; omega
      case inl =>
        generalize hx : same4 n a.toNat b.toNat 0 = x
        have HX := Lib.hid hx
        clear hx
        cases x
        all_goals
          go_wp2_with (go_at_call 14; refine (rbit_in _ _ _ _ (by omega) (by omega)).mono ?_; rintro e w' ⟨rfl, rfl⟩)
          go_round
          case rel =>
            refine ⟨1, by omega, by go_num, congrArg Value.bool ?_⟩
            first
              | exact (same4_step _ _ _ _ (by omega) HX.out).symm
              | (have := HX.out
                 simp [same4] at this
                 try (simp [same4, this]))
          case measure => simp [intOf]
      case inr.inl =>
        generalize hx : same4 n a.toNat b.toNat 1 = x
        have HX := Lib.hid hx
        clear hx
        cases x
        all_goals
          go_wp2_with (go_at_call 14; refine (rbit_in _ _ _ _ (by omega) (by omega)).mono ?_; rintro e w' ⟨rfl, rfl⟩)
          go_round
          case rel =>
            refine ⟨2, by omega, by go_num, congrArg Value.bool ?_⟩
            first
              | exact (same4_step _ _ _ _ (by omega) HX.out).symm
              | (have := HX.out
                 simp [same4] at this
                 try (simp [same4, this]))
          case measure => simp [intOf]
      case inr.inr.inl =>
        generalize hx : same4 n a.toNat b.toNat 2 = x
        have HX := Lib.hid hx
        clear hx
        cases x
        all_goals
          go_wp2_with (go_at_call 14; refine (rbit_in _ _ _ _ (by omega) (by omega)).mono ?_; rintro e w' ⟨rfl, rfl⟩)
          go_round
          case rel =>
            refine ⟨3, by omega, by go_num, congrArg Value.bool ?_⟩
            first
              | exact (same4_step _ _ _ _ (by omega) HX.out).symm
              | (have := HX.out
                 simp [same4] at this
                 try (simp [same4, this]))
          case measure => simp [intOf]
      case inr.inr.inr.inl =>
        generalize hx : same4 n a.toNat b.toNat 3 = x
        have HX := Lib.hid hx
        clear hx
        cases x
        all_goals
          go_wp2_with (go_at_call 14; refine (rbit_in _ _ _ _ (by omega) (by omega)).mono ?_; rintro e w' ⟨rfl, rfl⟩)
          go_round
          case rel =>
            refine ⟨4, by omega, by go_num, congrArg Value.bool ?_⟩
            first
              | exact (same4_step _ _ _ _ (by omega) HX.out).symm
              | (have := HX.out
                 simp [same4] at this
                 try (simp [same4, this]))
          case measure => simp [intOf]

theorem fb_then (a b : Int) (x y : Bool) : fb (thenN a b).toNat x y = fb b.toNat x (fb a.toNat x y) := by
  have H : ∀ x0 x1 x2 x3 : Bool, fb (num4 x0 x1 x2 x3).toNat true true = x0 ∧ fb (num4 x0 x1 x2 x3).toNat true false = x1 ∧ fb (num4 x0 x1 x2 x3).toNat false true = x2 ∧ fb (num4 x0 x1 x2 x3).toNat false false = x3 := by decide
  unfold thenN
  have := H (fb b.toNat true (fb a.toNat true true)) (fb b.toNat true (fb a.toNat true false)) (fb b.toNat false (fb a.toNat false true)) (fb b.toNat false (fb a.toNat false false))
  cases x <;> cases y
  · exact this.2.2.2
  · exact this.2.2.1
  · exact this.2.1
  · exact this.1

theorem mix_then (a b : Int) (s d p : BitVec 8) (ha : 0 ≤ a) (ha' : a < 16) (hb : 0 ≤ b) (hb' : b < 16) : mixA (thenN a b) s d p = mixA b s (mixA a s d p) p := by
  have := thenN_range a b
  ext i hi
  simp only [mixA_get, fb_then, if_pos this, if_pos (And.intro ha ha'), if_pos (And.intro hb hb')]
  cases p[i] <;> simp

theorem is_out (op : Int) (w : World) (h : op < 0 ∨ 16 ≤ op) :
    Calls Tryd.prog 16 #[.int .i64 op] w fun e w' => e = .returned (.bool false) ∧ w = w' := by
  rcases h with h | h
  · have hd' : decide (0 ≤ op) = false := by simp; omega
    go_enter Tryd.func16, Tryd.ntmps16
    go_wp2
    go_returns
    exact ⟨rfl, rfl⟩
  · have hd : decide (op ≤ 15) = false := by simp; omega
    have hd' : decide (0 ≤ op) = true := by simp; omega
    go_enter Tryd.func16, Tryd.ntmps16
    go_wp2
    go_returns
    exact ⟨rfl, rfl⟩

theorem rthen_out (a b : Int) (w : World) (h : (a < 0 ∨ 16 ≤ a) ∨ (b < 0 ∨ 16 ≤ b)) :
    Calls Tryd.prog 21 #[.int .i64 a, .int .i64 b] w fun e w' => e = .returned (.int .i64 (-1)) ∧ w = w' := by
  by_cases ha : a < 0 ∨ 16 ≤ a
  · go_enter Tryd.func21, Tryd.ntmps21
    go_wp2_with (go_at_call 16; refine (is_out _ _ (by assumption)).mono ?_; rintro e w' ⟨rfl, rfl⟩)
    go_returns
    exact ⟨rfl, rfl⟩
  · have hb := h.resolve_left ha
    go_enter Tryd.func21, Tryd.ntmps21
    go_wp2_with fail
    refine (is_any _ _ (by omega) (by omega)).mono ?_
    rintro e w' ⟨rfl, rfl⟩
    go_wp2_with fail
    refine (is_out _ _ hb).mono ?_
    rintro e w' ⟨rfl, rfl⟩
    go_wp2_with fail
    go_returns
    exact ⟨rfl, rfl⟩

theorem lthen_in (a b : Int) (s d p : BitVec 8) (w : World) (hs : RowAt 0 nameCells w) (ha : 0 ≤ a) (ha' : a < 16) (hb : 0 ≤ b) (hb' : b < 16) :
    Calls Tryd.prog 5 #[.int .i64 a, .int .i64 b, u8v s, u8v d, u8v p] w fun e w' => e = .returned (.bool true) ∧ Below w.heap.size w w' := by
  have e1 := mix_then a b s d p ha ha' hb hb'
  have hr := (thenN_range a b).1
  have hd : decide (0 ≤ thenN a b) = true := by simp; omega
  go_enter Tryd.func5, Tryd.ntmps5
  go_wp2_with fail
  refine (awake_any _ hs).mono ?_
  rintro e w1 ⟨rfl, hq⟩
  clear hs
  go_wp2_with fail
  refine (then_in a b _ ha ha' hb hb').mono ?_
  rintro e w2 ⟨rfl, hq2⟩
  have hq3 := q_step hq hq2
  clear hq hq2
  go_wp2_with fail
  refine (rthen_in a b _ ha ha' hb hb').mono ?_
  rintro e w3 ⟨rfl, rfl⟩
  go_wp2_with fail
  refine (mix_any _ _ _ _ _ s d p rfl rfl rfl).mono ?_
  rintro e w1 ⟨rfl, rfl⟩
  go_wp2_with fail
  refine (mix_any _ _ _ _ _ s d p rfl rfl rfl).mono ?_
  rintro e w1 ⟨rfl, rfl⟩
  go_wp2_with fail
  refine (mix_any _ _ _ _ _ s (mixA a s d p) p rfl rfl rfl).mono ?_
  rintro e w1 ⟨rfl, rfl⟩
  go_wp2
  go_returns
  exact ⟨rfl, hq3⟩

theorem lthen_out (a b : Int) (s d p : BitVec 8) (w : World) (hs : RowAt 0 nameCells w) (h : (a < 0 ∨ 16 ≤ a) ∨ (b < 0 ∨ 16 ≤ b)) :
    Calls Tryd.prog 5 #[.int .i64 a, .int .i64 b, u8v s, u8v d, u8v p] w fun e w' => e = .returned (.bool true) ∧ Below w.heap.size w w' := by
  go_enter Tryd.func5, Tryd.ntmps5
  go_wp2_with fail
  refine (awake_any _ hs).mono ?_
  rintro e w1 ⟨rfl, hq⟩
  clear hs
  go_wp2_with fail
  refine (then_out a b _ h).mono ?_
  rintro e w2 ⟨rfl, hq2⟩
  have hq3 := q_step hq hq2
  clear hq hq2
  go_wp2_with fail
  refine (rthen_out a b _ h).mono ?_
  rintro e w3 ⟨rfl, rfl⟩
  go_wp2
  go_returns
  exact ⟨rfl, hq3⟩

theorem then_assoc (a b c : Int) : thenN (thenN a b) c = thenN a (thenN b c) := by
  unfold thenN
  rw [show num4 (fb b.toNat true (fb a.toNat true true)) (fb b.toNat true (fb a.toNat true false)) (fb b.toNat false (fb a.toNat false true)) (fb b.toNat false (fb a.toNat false false)) = thenN a b from rfl,
    show num4 (fb c.toNat true (fb b.toNat true true)) (fb c.toNat true (fb b.toNat true false)) (fb c.toNat false (fb b.toNat false true)) (fb c.toNat false (fb b.toNat false false)) = thenN b c from rfl]
  simp only [fb_then]

theorem groups_in (a b c : Int) (w : World) (hs : RowAt 0 nameCells w) (ha : 0 ≤ a) (ha' : a < 16) (hb : 0 ≤ b) (hb' : b < 16) (hc : 0 ≤ c) (hc' : c < 16) :
    Calls Tryd.prog 9 #[.int .i64 a, .int .i64 b, .int .i64 c] w fun e w' => e = .returned (.bool true) ∧ Below w.heap.size w w' := by
  have e1 := then_assoc a b c
  have e2 := (thens a ha ha').2.2.1
  have e3 := (thens a ha ha').2.2.2.1
  have e4 := (thens a ha ha').2.2.2.2.1
  have r1 := thenN_range a b
  have r2 := thenN_range b c
  go_enter Tryd.func9, Tryd.ntmps9
  go_wp2_with fail
  refine (awake_any _ hs).mono ?_
  rintro e w1 ⟨rfl, hq⟩
  clear hs
  go_wp2_with (go_at_call 16; refine (is_any _ _ (by omega) (by omega)).mono ?_; rintro e w' ⟨rfl, rfl⟩)
  refine (then_in a b _ ha ha' hb hb').mono ?_
  rintro e w2 ⟨rfl, hq2⟩
  have hq3 := q_step hq hq2
  clear hq hq2
  go_wp2_with fail
  refine (then_in b c _ hb hb' hc hc').mono ?_
  rintro e w3 ⟨rfl, hq2⟩
  have hq := q_step hq3 hq2
  clear hq3 hq2
  go_wp2_with fail
  refine (then_in (thenN a b) c _ r1.1 r1.2 hc hc').mono ?_
  rintro e w2 ⟨rfl, hq2⟩
  have hq3 := q_step hq hq2
  clear hq hq2
  go_wp2_with fail
  refine (then_in a (thenN b c) _ ha ha' r2.1 r2.2).mono ?_
  rintro e w3 ⟨rfl, hq2⟩
  have hq := q_step hq3 hq2
  clear hq3 hq2
  go_wp2_with fail
  refine (then_in 5 a _ (by omega) (by omega) ha ha').mono ?_
  rintro e w2 ⟨rfl, hq2⟩
  have hq3 := q_step hq hq2
  clear hq hq2
  go_wp2_with fail
  refine (then_in a 5 _ ha ha' (by omega) (by omega)).mono ?_
  rintro e w3 ⟨rfl, hq2⟩
  have hq := q_step hq3 hq2
  clear hq3 hq2
  go_wp2_with fail
  refine (then_in a 3 _ ha ha' (by omega) (by omega)).mono ?_
  rintro e w2 ⟨rfl, hq2⟩
  have hq3 := q_step hq hq2
  clear hq hq2
  go_wp2
  go_returns
  exact ⟨rfl, hq3⟩
end Go.Proofs.YtligdolhokjgmaaDoor
