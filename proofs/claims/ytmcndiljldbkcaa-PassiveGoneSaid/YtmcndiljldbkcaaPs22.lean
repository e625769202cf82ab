/- Layer 38: is there more than is asked of? -/
import Derived.Test.YtmcndiljldbkcaaActs
import Derived.Test.YtmcndiljldbkcaaPs3
namespace Go.Proofs.Ytmcndiljldbkcaa
open Go Go.RowKit
set_option linter.unusedSimpArgs false
set_option linter.unusedVariables false
def greatB (xs : List Ac) : Bool := (xs.take 60).any (fun x => decide (20 < x.il)) || decide (60 < xs.length)
set_option maxRecDepth 100000 in
set_option maxHeartbeats 8000000 in
theorem great_any (v : Value) (xs : List Ac) (w : World) (hv : IsAct w v xs) : Calls Try.prog 10 #[v] w fun e w' => e = .returned (.bool (greatB xs)) ∧ Below w.heap.size w w' := by
  obtain ⟨A, cap, rfl, hf⟩ := hv
  obtain ⟨R, hR⟩ : ∃ R, greatB xs = R := ⟨_, rfl⟩
  have HR := Lib.hid hR
  rw [hR]
  clear hR
  obtain ⟨n, hn⟩ : ∃ n, xs.length = n := ⟨_, rfl⟩
  rw [hn] at hf ⊢
  have HF := Lib.hid hf
  have HN := Lib.hid hn
  clear hf hn
  go_enter Try.func10, Try.ntmps10
  go_wp2_with fail
  go_loopw [3] (fun i wr => ∃ k : Nat, k ≤ n ∧ k ≤ 60 ∧ i = .int .i64 k ∧ Hid ((xs.take k).any (fun x => decide (20 < x.il)) = false) ∧ Below w.heap.size w wr)
    (fun i _ => 60 - (intOf i).toNat)
  case atStart => exact ⟨0, by omega, by omega, rfl, Lib.hid rfl, Below.refl _ _⟩
  case round =>
    obtain ⟨k, hk, hk6, rfl, hno, J⟩ := hrel
    by_cases hlt : k < n
    · have hki : (k : Int) < (n : Int) := by omega
      by_cases h60 : k < 60
      · have hk60 : (k : Int) < 60 := by omega
        obtain ⟨b, off, rfl, hb, hlay⟩ := HF.out (by omega)
        obtain ⟨x, hx⟩ : ∃ x, xs[k]? = some x := ⟨_, List.getElem?_eq_getElem (by rw [HN.out]; exact hlt)⟩
        have d10 := cell_below J (hlay k x hx 10 _ rfl)
        have hs : (xs.take (k + 1)).any (fun x => decide (20 < x.il)) = decide (20 < x.il) := by
          rw [List.take_add_one, hx, List.any_append, hno.out]; simp
        have HS := Lib.hid hs
        have HX := Lib.hid hx
        clear hlay hx hs
        by_cases hg : 20 < x.il
        · have hg' : (20 : Int) < (x.il : Int) := by omega
          obtain rfl : R = true := by
            rw [← HR.out]
            unfold greatB
            have h1 : (xs.take 60).any (fun x => decide (20 < x.il)) = true := List.any_eq_true.2 ⟨x, List.mem_of_getElem? (by rw [List.getElem?_take, if_pos h60]; exact HX.out), by simpa using hg⟩
            rw [h1]; rfl
          go_wp2_with fail
          go_returns
          exact ⟨by first | rfl | (simp; done), J⟩
        · have hg' : ¬ (20 : Int) < (x.il : Int) := by omega
          have hs2 : (xs.take (k + 1)).any (fun x => decide (20 < x.il)) = false := HS.out.trans (decide_eq_false hg)
          have HS2 := Lib.hid hs2
          clear hs2
          go_wp2_with fail
          go_roundw
          case rel => exact ⟨k + 1, by omega, by omega, by go_num, HS2, J⟩
          case measure => simp [intOf] <;> omega
      · obtain rfl : k = 60 := by omega
        have hgt : (60 : Int) < (n : Int) := by omega
        obtain rfl : R = true := by
          rw [← HR.out]
          unfold greatB
          rw [HN.out, decide_eq_true (show 60 < n by omega), Bool.or_true]
        go_wp2_with fail
        go_returns
        exact ⟨by first | rfl | (simp; done), J⟩
    · obtain rfl : k = n := by omega
      have hle : ¬ (60 : Int) < (k : Int) := by omega
      obtain rfl : R = false := by
        rw [← HR.out]
        unfold greatB
        have h1 := hno.out
        rw [List.take_of_length_le (by rw [HN.out]; exact Nat.le_refl _)] at h1
        rw [List.take_of_length_le (by rw [HN.out]; omega), h1, HN.out, decide_eq_false (show ¬ 60 < k by omega)]; rfl
      go_wp2_with fail
      go_returns
      exact ⟨by first | rfl | (simp; done), J⟩
end Go.Proofs.Ytmcndiljldbkcaa
