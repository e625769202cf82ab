/- Layer 7: the walk of IdentFull: the first ids, in any order, are passed over. -/
import Derived.Test.YtipgmhldlobjdaaId5
namespace Go.Proofs.Ytipgmhldlobjdaa
open Go Go.RowKit Go.Maps
set_option linter.unusedSimpArgs false
set_option linter.unusedVariables false

/-- The first ids, turned about. -/
def turned (base t k : Int) (i : Nat) : List Int := (List.range i).map fun (j : Nat) => base + 1 + ((j : Int) + t) % k
theorem turned_length (base t k : Int) (i : Nat) : (turned base t k i).length = i := by simp [turned]
theorem turned_step (base t k : Int) (i : Nat) : turned base t k (i + 1) = turned base t k i ++ [base + 1 + ((i : Int) + t) % k] := by
  simp [turned, List.range_succ]
theorem turned_mem {base t k : Int} {n : Nat} (hk : (n : Int) = k) (x : Int) : x ∈ turned base t k n ↔ base < x ∧ x ≤ base + k := by
  unfold turned
  rw [List.mem_map]
  constructor
  · rintro ⟨j, hj, rfl⟩
    rw [List.mem_range] at hj
    have h1 := Int.emod_nonneg ((j : Int) + t) (show k ≠ 0 by omega)
    have h2 := Int.emod_lt_of_pos ((j : Int) + t) (show 0 < k by omega)
    omega
  · rintro ⟨h1, h2⟩
    have hk0 : 0 < k := by omega
    have q1 := Int.emod_nonneg (x - base - 1 - t) (show k ≠ 0 by omega)
    have q2 := Int.emod_lt_of_pos (x - base - 1 - t) hk0
    refine ⟨((x - base - 1 - t) % k).toNat, List.mem_range.2 (by omega), ?_⟩
    rw [Int.toNat_of_nonneg q1, Int.emod_add_emod, show x - base - 1 - t + t = x - base - 1 by omega, Int.emod_eq_of_lt (by omega) (by omega)]
    omega
theorem turned_least {base t k : Int} {n : Nat} (hk : (n : Int) = k) (h : k < 1048575) : Least base (turned base t k n) (base + k + 1) :=
  ⟨by omega, by omega, by rw [turned_mem hk]; omega, fun x h1 h2 => (turned_mem hk x).2 ⟨h1, by omega⟩⟩

set_option maxRecDepth 100000 in
set_option maxHeartbeats 2000000 in
theorem lfull_any (c0 n0 t : Int) (w : World) (b1 : 0 ≤ c0) (b2 : c0 < 256) (b3 : 0 ≤ n0) (b4 : n0 < 256) (b5 : 0 ≤ t) (b6 : t < 256) :
    Calls Try.prog 8 #[.int .u8 c0, .int .u8 n0, .int .u8 t] w fun e w' => e = .returned (.bool true) ∧ Below w.heap.size w w' := by
  obtain ⟨i0, hi, hz0, hz1, hz2⟩ := info_parts info_id
  have f1 : c0.tmod 8 = c0 % 8 := by rw [Int.tmod_eq_emod_of_nonneg b1]
  have f2 : n0.tmod 101 = n0 % 101 := by rw [Int.tmod_eq_emod_of_nonneg b3]
  have f3 : IntKind.u8.wrap (c0 % 8) = c0 % 8 := by simp only [IntKind.wrap, IntKind.bits, IntKind.signed]; simp; omega
  have f4 : IntKind.u8.wrap (n0 % 101) = n0 % 101 := by simp only [IntKind.wrap, IntKind.bits, IntKind.signed]; simp; omega
  have f5 : IntKind.i64.wrap (1 + c0 % 8) = 1 + c0 % 8 := i64_in (by omega) (by omega)
  go_enter Try.func8, Try.ntmps8
  go_wp2_with fail
  have hk1 : 1 ≤ 1 + c0 % 8 := by omega
  have hk2 : 1 + c0 % 8 ≤ 8 := by omega
  generalize 1 + c0 % 8 = c at hk1 hk2 f5 ⊢
  have hn1 : 0 ≤ n0 % 101 := by omega
  have hn2 : n0 % 101 ≤ 100 := by omega
  generalize n0 % 101 = k at hn1 hn2 f2 f4 ⊢
  clear f1 f3 f5 f2 f4
  refine (base_ok _ _ hk1 hk2).mono ?_
  rintro e w1 ⟨rfl, rfl⟩
  go_wp2_with fail
  have g1 : IntKind.u32.wrap (c * 1048576 + 1) = c * 1048576 + 1 := u32_in (by omega) (by omega)
  go_loopw [11, 28] (fun v i wr => ∃ m : Nat, (m : Int) ≤ k ∧ i = .int .i64 m ∧ wr.ownsRow w.heap.size 23 1 v m ((turned (c * 1048576) t k m).map u3) ∧ Below w.heap.size w wr)
    (fun _ i _ => k.toNat - (intOf i).toNat)
  case atStart => exact ⟨0, hn1, rfl, World.ownsRow_nil _ _ _ _, Below.refl _ _⟩
  case round =>
    obtain ⟨m, hm, rfl, hown, hnx⟩ := hrel
    by_cases hlt : (m : Int) < k
    · have q1 := Int.emod_nonneg ((m : Int) + t) (show k ≠ 0 by omega)
      have q2 := Int.emod_lt_of_pos ((m : Int) + t) (show 0 < k by omega)
      have q3 : ((m : Int) + t).tmod k = ((m : Int) + t) % k := by rw [Int.tmod_eq_emod_of_nonneg (by omega)]
      have q4 : IntKind.i64.wrap ((m : Int) + t) = (m : Int) + t := i64_in (by omega) (by omega)
      have q5 : IntKind.i64.wrap (((m : Int) + t) % k) = ((m : Int) + t) % k := i64_in (by omega) (by omega)
      have q6 : IntKind.u32.wrap (((m : Int) + t) % k) = ((m : Int) + t) % k := u32_in (by omega) (by omega)
      have q7 : IntKind.u32.wrap (c * 1048576 + 1 + ((m : Int) + t) % k) = c * 1048576 + 1 + ((m : Int) + t) % k := u32_in (by omega) (by omega)
      have q8 : ¬ k = 0 := by omega
      go_wp2_with (first
        | (at_builtin; refine wpList_append_own _ rfl _ _ 36 rfl w.heap.size 23 i0 (.int .u32 0) 1 4 und_ids hi hz0 hz1 hz2 rfl (by decide) _ _ _ rfl (hown.alloc _) ⟨wr.heap.size, 0, none⟩ 1 1 [u3 (c * 1048576 + 1 + ((m : Int) + t) % k)] rfl rfl ?c1 ?c2 ?c3 ?c4 ?c5 ?_)
        | go_in)
      case c1 =>
        intro j u hj
        match j, hj with
        | 0, hj => simp at hj; subst hj; exact cell_new rfl
      case c2 => intro u hu; simp at hu; subst hu; rfl
      case c3 => unfold maxLen; omega
      case c4 => omega
      case c5 => have := hnx.size; simp; omega
      intro v' w1 hown' hgrow _
      have hb1 : Below w.heap.size w w1 := (hnx.alloc hnx.size _).grown hgrow (by have := hnx.size; simp; omega) (fun j hj => (hown.lt j hj).1)
      have hown2 : w1.ownsRow w.heap.size 23 1 v' (m + 1) ((turned (c * 1048576) t k (m + 1)).map u3) := by
        rw [turned_step, List.map_append]; exact hown'
      clear hown' hgrow hown hnx
      go_wp2_with fail
      go_roundw
      case rel => exact ⟨m + 1, by omega, by go_num, hown2, hb1⟩
      case measure => simp [intOf]; omega
    · have hkm : (m : Int) = k := by omega
      have hl := turned_least (base := c * 1048576) (t := t) hkm (by omega)
      have hf := freshOf_least hl
      have hres : freshRes (c * 1048576) (turned (c * 1048576) t k m) = .tuple #[u3 (c * 1048576 + k + 1), .bool true] := by
        unfold freshRes; rw [hf, decide_eq_true (by omega)]
      have HR := Lib.hid hres
      have hown2 : wr.ownsRow w.heap.size 23 1 u11 (turned (c * 1048576) t k m).length ((turned (c * 1048576) t k m).map u3) := by
        rw [turned_length]; exact hown
      have q1 : IntKind.u32.wrap k = k := u32_in (by omega) (by omega)
      have q2 : IntKind.u32.wrap (c * 1048576 + k) = c * 1048576 + k := u32_in (by omega) (by omega)
      have q3 : IntKind.u32.wrap (c * 1048576 + k + 1) = c * 1048576 + k + 1 := u32_in (by omega) (by omega)
      clear hl hf hres
      go_wp2_with fail
      refine (fresh_own c (turned (c * 1048576) t k m) u11 w.heap.size wr hk1 hk2 (by rw [turned_length]; omega) (fun n hn => ?_) hown2).mono ?_
      · have := (turned_mem hkm n).1 hn
        omega
      rintro e w1 ⟨rfl, hq⟩
      rw [HR.out]
      have hq1 := q_step hnx hq
      go_wp2_with fail
      refine (awake_any _).mono ?_
      rintro e w2 ⟨rfl, hq2⟩
      have hq3 := q_step hq1 hq2
      go_wp2_with fail
      go_returns
      exact ⟨by first | rfl | (simp; done) | (simp; omega), hq3⟩
end Go.Proofs.Ytipgmhldlobjdaa
