/- Layer 1: the document's answers: rows, and whether lists are the same. -/
import Derived.Test.YtbbblopackffiaaDoorOrdR3
import Derived.Test.YtbbblopackffiaaDoorOrd10
import Derived.Test.YtbbblopackffiaaDoorOrd12
namespace Go.Proofs.YtbbblopackffiaaDoor
open Go Go.RowKit
set_option linter.unusedSimpArgs false
set_option linter.unusedVariables false

theorem i6At_below {w w' : World} {b off : Nat} {us : List Int} (h : I6At w b off us) (hb : Below w.heap.size w w') : I6At w' b off us :=
  ⟨Nat.lt_of_lt_of_le h.1 hb.size, fun j hj => (hb.cell (p := ⟨b, off + j, none⟩) h.1).trans (h.2 j hj)⟩

theorem same_none (a b : Option Addr) (ca cb : Nat) (w : World) :
    Calls Tryd.prog 24 #[.slice a 0 ca, .slice b 0 cb] w fun e w' => e = .returned (.bool true) ∧ Below w.heap.size w w' := by
  have hq := Below.refl w.heap.size w
  go_enter Tryd.func24, Tryd.ntmps24
  go_wp2_with fail
  refine wp_loop_rounds 1 ?_
  rw [rounds_succ]
  go_wp2_with fail
  go_returns
  exact ⟨by first | rfl | (simp; done), hq⟩

set_option maxRecDepth 100000 in
theorem same_some (b1 o1 c1 b2 o2 c2 : Nat) (us : List Int) (w : World) (h1 : I6At w b1 o1 us) (h2 : I6At w b2 o2 us) (hl : us.length ≤ 262144) :
    Calls Tryd.prog 24 #[.slice (some ⟨b1, o1, none⟩) us.length c1, .slice (some ⟨b2, o2, none⟩) us.length c2] w fun e w' => e = .returned (.bool true) ∧ Below w.heap.size w w' := by
  have hq := Below.refl w.heap.size w
  have H1 := Lib.hid h1
  have H2 := Lib.hid h2
  clear h1 h2
  go_enter Tryd.func24, Tryd.ntmps24
  go_wp2_with fail
  go_loopw [5] (fun i wr => ∃ k : Nat, k ≤ us.length ∧ i = .int .i64 k ∧ Below w.heap.size w wr)
    (fun i _ => us.length - (intOf i).toNat)
  case atStart => exact ⟨0, Nat.zero_le _, rfl, hq⟩
  case round =>
    clear hq
    obtain ⟨k, hk, rfl, hnx⟩ := hrel
    by_cases hlt : k < us.length
    · have hc1 : wr.cell? ⟨b1, o1 + k, none⟩ = some (i6 (us.getD k 0)) := (i6At_below H1.out hnx).2 k hlt
      have hc2 : wr.cell? ⟨b2, o2 + k, none⟩ = some (i6 (us.getD k 0)) := (i6At_below H2.out hnx).2 k hlt
      generalize us.getD k 0 = u at hc1 hc2
      have hki : (k : Int) < (us.length : Int) := by omega
      go_wp2_with fail
      go_quiet (fail)
      have hq2 : Below w.heap.size w (wr.drewN nq) := q_drewN _ hnx
      go_wp2_with fail
      go_roundw
      case rel => exact ⟨k + 1, by omega, by go_num, hq2⟩
      case measure => simp [intOf]; omega
    · have hkl : k = us.length := by omega
      subst hkl
      go_wp2_with fail
      go_returns
      exact ⟨by first | rfl | (simp; done), hnx⟩

/-- A list of the call's own. -/
abbrev OwnL (w : World) (B : Nat) (v : Value) (us : List Int) : Prop := w.ownsRow B 2 1 v us.length (us.map i6)
theorem ownL_below {w w' : World} {B : Nat} {v : Value} {us : List Int} (h : OwnL w B v us) (hb : Below w.heap.size w w') : OwnL w' B v us := by
  obtain ⟨h0, hcase⟩ := h
  refine ⟨h0, ?_⟩
  rcases hcase with h1 | ⟨g, cap, cur, hv, hg, hh, hr⟩
  · exact .inl h1
  · exact .inr ⟨g, cap, cur, hv, hg, (hb.block g (Array.getElem?_eq_some_iff.1 hh).1).trans hh, hr⟩
theorem same_own (g c2 B : Nat) (v : Value) (us : List Int) (w : World) (h1 : OwnI w g us) (h2 : OwnL w B v us) (hl : us.length ≤ 262144) :
    Calls Tryd.prog 24 #[.slice (some ⟨g, 0, none⟩) us.length c2, v] w fun e w' => e = .returned (.bool true) ∧ Below w.heap.size w w' := by
  have hown0 := h2
  obtain ⟨_, hcase⟩ := h2
  rcases hcase with ⟨rfl, h0⟩ | ⟨g2, cap', cur, rfl, hg, hh, hn, hcap, hsz, htake⟩
  · rw [h0]; exact same_none _ _ _ _ w
  · refine same_some g 0 c2 g2 0 cap' us w h1.is ⟨(Array.getElem?_eq_some_iff.1 hh).1, fun j hj => ?_⟩ hl
    rw [Nat.zero_add, hown0.cellAt j (by simpa using hj)]
    simp [List.getD, List.getElem?_eq_getElem hj]

theorem rput_out {od s n lo hi v : Int} (w : World) (ho : od = 0 ∨ od = 1) (h : IsSpan s n lo hi) (h1 : ¬ (lo ≤ v ∧ v ≤ hi)) :
    Calls Tryd.prog 17 #[i6 od, i6 s, i6 v] w fun e w' => e = .returned (strErr 1) ∧ Below w.heap.size w w' := by
  by_cases hl : lo ≤ v
  · exact rput_more od s n lo hi v w ho h hl (by omega)
  · exact rput_less od s n lo hi v w ho h (by omega)
theorem rput_zero {od s n lo hi : Int} (w : World) (ho : od = 0 ∨ od = 1) (h : IsSpan s n lo hi) :
    Calls Tryd.prog 17 #[i6 od, i6 s, i6 0] w fun e w' => e = .returned (strOk (enc od n 0)) ∧ Below w.heap.size w w' :=
  rput_ok od s n lo hi 0 w ho h (by have := h.bounds; omega) (by have := h.bounds; omega)

theorem rrow_kind (od s : Int) (a : Option Addr) (len cap : Nat) (w : World) (hk : BadOrder od) :
    Calls Tryd.prog 22 #[i6 od, i6 s, .slice a len cap] w fun e w' => e = .returned (strErr 10) ∧ Below w.heap.size w w' := by
  go_enter Tryd.func22, Tryd.ntmps22
  go_wp2_with fail
  refine (rput_kind od s 0 _ hk).mono ?_
  rintro e w1 ⟨rfl, hq⟩
  go_wp2_with fail
  go_returns
  exact ⟨by first | rfl | (simp; done), hq⟩
theorem rrows_kind (od s : Int) (b : ByteArray) (w : World) (hk : BadOrder od) :
    Calls Tryd.prog 25 #[i6 od, i6 s, .string b] w fun e w' => e = .returned (nilErr 10) ∧ Below w.heap.size w w' := by
  go_enter Tryd.func25, Tryd.ntmps25
  go_wp2_with fail
  refine (rput_kind od s 0 _ hk).mono ?_
  rintro e w1 ⟨rfl, hq⟩
  go_wp2_with fail
  go_returns
  exact ⟨by first | rfl | (simp; done), hq⟩

theorem rrow_size (od s : Int) (a : Option Addr) (len cap : Nat) (w : World) (ho : od = 0 ∨ od = 1) (hk : BadSize s) :
    Calls Tryd.prog 22 #[i6 od, i6 s, .slice a len cap] w fun e w' => e = .returned (strErr 17) ∧ Below w.heap.size w w' := by
  go_enter Tryd.func22, Tryd.ntmps22
  go_wp2_with fail
  refine (rput_size od s 0 _ ho hk).mono ?_
  rintro e w1 ⟨rfl, hq⟩
  go_wp2_with fail
  go_returns
  exact ⟨by first | rfl | (simp; done), hq⟩
theorem rrows_size (od s : Int) (b : ByteArray) (w : World) (ho : od = 0 ∨ od = 1) (hk : BadSize s) :
    Calls Tryd.prog 25 #[i6 od, i6 s, .string b] w fun e w' => e = .returned (nilErr 17) ∧ Below w.heap.size w w' := by
  go_enter Tryd.func25, Tryd.ntmps25
  go_wp2_with fail
  refine (rput_size od s 0 _ ho hk).mono ?_
  rintro e w1 ⟨rfl, hq⟩
  go_wp2_with fail
  go_returns
  exact ⟨by first | rfl | (simp; done), hq⟩

set_option maxRecDepth 100000 in
theorem rrow_many (od s n lo hi : Int) (a : Option Addr) (len cap : Nat) (w : World) (ho : od = 0 ∨ od = 1) (h : IsSpan s n lo hi) (hlen : 65536 < len) :
    Calls Tryd.prog 22 #[i6 od, i6 s, .slice a len cap] w fun e w' => e = .returned (strErr 5) ∧ Below w.heap.size w w' := by
  have hb : decide ((65536 : Int) < (len : Int)) = true := decide_eq_true (by omega)
  go_enter Tryd.func22, Tryd.ntmps22
  go_wp2_with fail
  refine (rput_zero _ ho h).mono ?_
  rintro e w1 ⟨rfl, hq⟩
  go_wp2_with fail
  go_returns
  exact ⟨by first | rfl | (simp; done), hq⟩
theorem rrow_nil (od s n lo hi : Int) (a : Option Addr) (cap : Nat) (w : World) (ho : od = 0 ∨ od = 1) (h : IsSpan s n lo hi) :
    Calls Tryd.prog 22 #[i6 od, i6 s, .slice a 0 cap] w fun e w' => e = .returned (rowRes od n lo hi []) ∧ Below w.heap.size w w' := by
  have HR : rowRes od n lo hi [] = .tuple #[.string ⟨#[]⟩, i6 0] := rfl
  go_enter Tryd.func22, Tryd.ntmps22
  go_wp2_with fail
  refine (rput_zero _ ho h).mono ?_
  rintro e w1 ⟨rfl, hq⟩
  go_wp2_with fail
  refine wp_loop_rounds 1 ?_
  rw [rounds_succ]
  go_wp2_with fail
  go_returns
  exact ⟨by rw [HR]; first | rfl | (simp; done), hq⟩

set_option maxRecDepth 100000 in
set_option maxHeartbeats 1000000 in
theorem rrow_some (od s n lo hi : Int) (b off cap : Nat) (us : List Int) (w : World) (ho : od = 0 ∨ od = 1) (h : IsSpan s n lo hi) (hlen : us.length ≤ 65536) (hc : I6At w b off us) :
    Calls Tryd.prog 22 #[i6 od, i6 s, .slice (some ⟨b, off, none⟩) us.length cap] w fun e w' => e = .returned (rowRes od n lo hi us) ∧ Below w.heap.size w w' := by
  have HC := Lib.hid hc
  have HN := Lib.hid h
  have hsz := h.size
  have hb : decide ((65536 : Int) < (us.length : Int)) = false := decide_eq_false (by omega)
  obtain ⟨m, hm⟩ : ∃ m : Nat, (m : Int) = n := ⟨n.toNat, by omega⟩
  have hm4 : m ≤ 4 := by omega
  have hmt : n.toNat = m := by omega
  clear hc h
  go_enter Tryd.func22, Tryd.ntmps22
  go_wp2_with fail
  refine (rput_zero _ ho HN.out).mono ?_
  rintro e w1 ⟨rfl, hq⟩
  go_wp2_with fail
  go_loopw [10, 11] (fun t i wr => ∃ k : Nat, k ≤ us.length ∧ i = .int .i64 k ∧ t = .string (strOfNums (encRow od n (us.take k))) ∧ Hid (∀ j, j < k → inB lo hi (us.getD j 0) = true) ∧ Below w.heap.size w wr)
    (fun _ i _ => us.length - (intOf i).toNat)
  case atStart => exact ⟨0, Nat.zero_le _, rfl, rfl, Lib.hid (fun j hj => absurd hj (Nat.not_lt_zero _)), hq⟩
  case round =>
    clear hq hb
    obtain ⟨k, hk, rfl, rfl, hall, hnx⟩ := hrel
    by_cases hlt : k < us.length
    · have hcx : wr.cell? ⟨b, off + k, none⟩ = some (i6 (us.getD k 0)) := (i6At_below HC.out hnx).2 k hlt
      by_cases hin : inB lo hi (us.getD k 0) = true
      · have hst := encRow_step od n us k hlt
        have hall' : Hid (∀ j, j < k + 1 → inB lo hi (us.getD j 0) = true) := Lib.hid (fun j hj => by
          by_cases e : j = k
          · rw [e]; exact hin
          · exact hall.out j (by omega))
        generalize us.getD k 0 = u at hcx hin hst
        have hin2 : lo ≤ u ∧ u ≤ hi := of_decide_eq_true hin
        have hln := encRow_length od (us.take k) hsz
        rw [List.length_take, Nat.min_eq_left hk, hmt] at hln
        have hkm : k * m ≤ 262144 := by
          have := Nat.mul_le_mul (show k ≤ 65536 by omega) hm4
          omega
        obtain ⟨P, hP⟩ : ∃ P, k * m = P := ⟨_, rfl⟩
        rw [hP] at hln hkm
        have hz1 := strOfNums_size (encRow od n (us.take k))
        rw [hln] at hz1
        have hz2 := strOfNums_size (enc od n u)
        rw [enc_length od u hsz, hmt] at hz2
        have hns : ¬ 9223372036854775807 < P + m := by omega
        have hap := str_append (encRow od n (us.take k)) (enc od n u)
        rw [← hst] at hap
        have HAP := Lib.hid hap
        clear hall hst hP hin hap
        go_wp2_with fail
        refine (rput_ok od s n lo hi u _ ho HN.out hin2.1 hin2.2).mono ?_
        rintro e w2 ⟨rfl, hb2⟩
        have hq2 := q_step hnx hb2
        clear hcx hnx hb2
        go_wp2_with fail
        go_roundw
        case rel => exact ⟨k + 1, by omega, by go_num, by rw [← HAP.out] <;> first | rfl | (simp; done), hall', hq2⟩
        case measure => simp [intOf]; omega
      · have hin' : inB lo hi (us.getD k 0) = false := by simpa using hin
        have hR := Lib.hid (show rowRes od n lo hi us = strErr 1 by unfold rowRes; rw [allIn_no hlt hin']; rfl)
        generalize us.getD k 0 = u at hcx hin'
        have hno : ¬ (lo ≤ u ∧ u ≤ hi) := of_decide_eq_false hin'
        clear hin hin' hall
        go_wp2_with fail
        refine (rput_out _ ho HN.out hno).mono ?_
        rintro e w2 ⟨rfl, hb2⟩
        have hq2 := q_step hnx hb2
        go_wp2_with fail
        go_returns
        exact ⟨by rw [hR.out]; first | rfl | (simp; done), hq2⟩
    · have hkl : k = us.length := by omega
      subst hkl
      have hR := Lib.hid (show rowRes od n lo hi us = .tuple #[.string (strOfNums (encRow od n us)), i6 0] by unfold rowRes; rw [allIn_yes hall.out]; rfl)
      rw [List.take_length]
      clear hall
      go_wp2_with fail
      go_returns
      exact ⟨by rw [hR.out]; first | rfl | (simp; done), hnx⟩
end Go.Proofs.YtbbblopackffiaaDoor
