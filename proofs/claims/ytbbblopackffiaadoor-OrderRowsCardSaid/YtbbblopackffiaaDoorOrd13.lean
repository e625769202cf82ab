/- Layer 1: the walks of OrderRows and OrderReads. -/
import Derived.Test.YtbbblopackffiaaDoorOrdR5
import Derived.Test.YtbbblopackffiaaDoorInts
namespace Go.Proofs.YtbbblopackffiaaDoor
open Go Go.RowKit
set_option linter.unusedSimpArgs false
set_option linter.unusedVariables false

theorem isI_below {w w' : World} {v : Value} {us : List Int} (h : IsInts w .i64 v us) (hb : Below w.heap.size w w') : IsInts w' .i64 v us := by
  rcases h with h | ⟨b, off, cap, hv, h1, h2, h3, h4, h5⟩
  · exact Or.inl h
  · exact Or.inr ⟨b, off, cap, hv, h1, h2, h3, Nat.lt_of_lt_of_le h4 hb.size, fun j hj => (hb.cell (p := ⟨b, off + j, none⟩) h4).trans (h5 j hj)⟩
theorem isI_own {w : World} {g : Nat} {us : List Int} {c : Nat} (h : OwnI w g us) (hl : us.length ≤ maxLen) (hc : us.length = c) : IsInts w .i64 (.slice (some ⟨g, 0, none⟩) c c) us := by
  subst hc
  by_cases h0 : us.length = 0
  · rw [h0]; exact Or.inl ⟨_, _, rfl, List.length_eq_zero_iff.1 h0⟩
  · exact Or.inr ⟨g, 0, us.length, rfl, by omega, Nat.le_refl _, hl, h.lt, h.is.2⟩
theorem isI_ownL {w : World} {B : Nat} {v : Value} {us : List Int} (h : OwnL w B v us) : IsInts w .i64 v us := by
  have hown0 := h
  obtain ⟨_, hcase⟩ := h
  rcases hcase with ⟨rfl, h0⟩ | ⟨g2, cap', cur, rfl, hg, hh, hn, hcap, hsz, htake⟩
  · exact Or.inl ⟨_, _, rfl, List.length_eq_zero_iff.1 h0⟩
  · by_cases h0 : us.length = 0
    · rw [h0]; exact Or.inl ⟨_, _, rfl, List.length_eq_zero_iff.1 h0⟩
    · refine Or.inr ⟨g2, 0, cap', rfl, by omega, hn, hcap, (Array.getElem?_eq_some_iff.1 hh).1, fun j hj => ?_⟩
      rw [Nat.zero_add, hown0.cellAt j (by simpa using hj)]
      simp [List.getD, List.getElem?_eq_getElem hj]
theorem isI_slice {w : World} {v : Value} {us : List Int} (h : IsInts w .i64 v us) : ∃ a cap, v = .slice a us.length cap := by
  rcases h with ⟨a, cap, rfl, rfl⟩ | ⟨b, off, cap, rfl, _⟩
  · exact ⟨a, cap, rfl⟩
  · exact ⟨_, cap, rfl⟩

theorem row_ints (od s n lo hi : Int) (v R : Value) (us : List Int) (w : World) (hs : RowAt 0 spanCells w) (ho : od = 0 ∨ od = 1) (h : IsSpan s n lo hi) (hlen : us.length ≤ 65536) (hv : IsInts w .i64 v us) (hR : rowRes od n lo hi us = R) :
    Calls Tryd.prog 21 #[i6 od, i6 s, v] w fun e w' => e = .returned R ∧ Below w.heap.size w w' := by
  subst hR
  rcases hv with ⟨a, cap, rfl, rfl⟩ | ⟨b, off, cap, rfl, h1, h2, h3, h4, h5⟩
  · exact row_nil od s n lo hi a cap w hs ho h
  · exact row_some od s n lo hi b off cap us w hs ho h hlen h1 ⟨h4, h5⟩
theorem rrow_ints (od s n lo hi : Int) (v R : Value) (us : List Int) (w : World) (ho : od = 0 ∨ od = 1) (h : IsSpan s n lo hi) (hlen : us.length ≤ 65536) (hv : IsInts w .i64 v us) (hR : rowRes od n lo hi us = R) :
    Calls Tryd.prog 22 #[i6 od, i6 s, v] w fun e w' => e = .returned R ∧ Below w.heap.size w w' := by
  subst hR
  rcases hv with ⟨a, cap, rfl, rfl⟩ | ⟨b, off, cap, rfl, h1, h2, h3, h4, h5⟩
  · exact rrow_nil od s n lo hi a cap w ho h
  · exact rrow_some od s n lo hi b off cap us w ho h hlen ⟨h4, h5⟩
theorem same_ints (v1 v2 : Value) (us : List Int) (w : World) (h1 : IsInts w .i64 v1 us) (h2 : IsInts w .i64 v2 us) (hl : us.length ≤ 262144) :
    Calls Tryd.prog 24 #[v1, v2] w fun e w' => e = .returned (.bool true) ∧ Below w.heap.size w w' := by
  rcases h1 with ⟨a, cap, rfl, rfl⟩ | ⟨b, off, cap, rfl, p1, p2, p3, p4, p5⟩
  · rcases h2 with ⟨a', cap', rfl, _⟩ | ⟨b', off', cap', rfl, q1, q2, q3, q4, q5⟩
    · exact same_none _ _ _ _ w
    · simp at q1
  · rcases h2 with ⟨a', cap', rfl, rfl⟩ | ⟨b', off', cap', rfl, q1, q2, q3, q4, q5⟩
    · simp at p1
    · exact same_some b off cap b' off' cap' us w ⟨p4, p5⟩ ⟨q4, q5⟩ hl

theorem piece_enc (od n : Int) (m : Nat) (hs : n = 1 ∨ n = 2 ∨ n = 4) (hm : (m : Int) = n) : ∀ (us : List Int) (i : Nat), i < us.length → ((encRow od n us).drop (i * m)).take m = enc od n (us.getD i 0)
  | [], i, hi => by simp at hi
  | v :: us, 0, hi => by
    have hl : (enc od n v).length = m := by rw [enc_length od v hs]; omega
    have : encRow od n (v :: us) = enc od n v ++ encRow od n us := by simp [encRow]
    rw [Nat.zero_mul, List.drop_zero, this, List.take_append_of_le_length (by omega), List.take_of_length_le (by omega)]
    rfl
  | v :: us, i + 1, hi => by
    have hl : (enc od n v).length = m := by rw [enc_length od v hs]; omega
    have : encRow od n (v :: us) = enc od n v ++ encRow od n us := by simp [encRow]
    have h1 : (i + 1) * m = (enc od n v).length + i * m := by rw [Nat.add_mul, hl]; omega
    rw [this, h1, List.drop_append, List.drop_eq_nil_of_le (by omega), Nat.add_sub_cancel_left, List.nil_append, piece_enc od n m hs hm us i (by simpa using hi)]
    rfl
theorem inB_of_all {lo hi : Int} {us : List Int} (h : allIn lo hi us = true) {i : Nat} (hi' : i < us.length) : lo ≤ us.getD i 0 ∧ us.getD i 0 ≤ hi := by
  unfold allIn at h
  rw [List.all_eq_true] at h
  have := h (us.getD i 0) (by rw [List.getD_eq_getElem?_getD, List.getElem?_eq_getElem hi']; exact List.getElem_mem hi')
  exact of_decide_eq_true this
theorem decRow_enc {s n lo hi : Int} (h : IsSpan s n lo hi) (od : Int) (m : Nat) (hm : (m : Int) = n) (us : List Int) (hin : allIn lo hi us = true) : decRow od lo hi m (encRow od n us) us.length = us := by
  apply List.ext_getElem (decRow_length _ _ _ _ _ _)
  intro i h1 h2
  simp only [decRow, List.getElem_map, List.getElem_range]
  rw [piece_enc od n m h.size hm us i h2]
  have hb := inB_of_all hin h2
  rw [dec_enc h od _ hb.1 hb.2, List.getD_eq_getElem?_getD, List.getElem?_eq_getElem h2]
  rfl
theorem encRow_append (od n : Int) (a b : List Int) : encRow od n (a ++ b) = encRow od n a ++ encRow od n b := by simp [encRow]
theorem encRow_dec {s n lo hi : Int} (h : IsSpan s n lo hi) (od : Int) (m c : Nat) (hm : (m : Int) = n) (xs : List Int) (hx : IsBytes xs) (hc : xs.length = c * m) : ∀ k, k ≤ c → encRow od n (decRow od lo hi m xs k) = xs.take (k * m)
  | 0, _ => by simp [decRow, encRow]
  | k + 1, hk => by
    have ih := encRow_dec h od m c hm xs hx hc k (by omega)
    have hle : (k + 1) * m ≤ c * m := Nat.mul_le_mul_right m hk
    rw [Nat.add_mul, Nat.one_mul] at hle ⊢
    have hp := (enc_dec h od ((xs.drop (k * m)).take m) ((hx.drop _).take _) (by rw [List.length_take, List.length_drop]; omega)).1
    rw [decRow_step, encRow_append, ih, encRow_one, hp, List.take_add]
theorem allIn_dec {s n lo hi : Int} (h : IsSpan s n lo hi) (od : Int) (m c : Nat) (hm : (m : Int) = n) (xs : List Int) (hx : IsBytes xs) (hc : xs.length = c * m) : allIn lo hi (decRow od lo hi m xs c) = true := by
  unfold allIn decRow
  rw [List.all_eq_true]
  intro u hu
  obtain ⟨k, hk, rfl⟩ := List.mem_map.1 hu
  rw [List.mem_range] at hk
  have hle : (k + 1) * m ≤ c * m := Nat.mul_le_mul_right m hk
  rw [Nat.add_mul, Nat.one_mul] at hle
  have hp := (enc_dec h od ((xs.drop (k * m)).take m) ((hx.drop _).take _) (by rw [List.length_take, List.length_drop]; omega)).2
  exact decide_eq_true hp

set_option maxRecDepth 100000 in
set_option maxHeartbeats 1000000 in
theorem lrows_much (od s : Int) (a : Option Addr) (len cap : Nat) (us : List Int) (w : World) (hs : RowAt 0 spanCells w) (hbig : 300 < len) :
    Calls Tryd.prog 5 #[whichV od s, .slice a len cap] w fun e w' => e = .returned (.bool true) ∧ Below w.heap.size w w' := by
  go_enter Tryd.func5, Tryd.ntmps5
  have hq0 : Below w.heap.size w (w.alloc (.cells #[i6 od, i6 s] 23)) := q_alloc (Below.refl _ _) _
  have c0 : (w.alloc (.cells #[i6 od, i6 s] 23)).cell? ⟨w.heap.size, 0, none⟩ = some (i6 od) := cell_new rfl
  have c1 : (w.alloc (.cells #[i6 od, i6 s] 23)).cell? ⟨w.heap.size, 1, none⟩ = some (i6 s) := cell_new rfl
  have hs0 := hs.below hq0
  go_wp2_with fail
  generalize w.alloc (.cells #[i6 od, i6 s] 23) = W0 at hq0 c0 c1 hs0 ⊢
  refine (awake_any _ hs0).mono ?_
  rintro e W1 ⟨rfl, hb⟩
  have hq1 := q_step hq0 hb
  have hs1 := hs.below hq1
  replace c0 := cell_below hb c0
  replace c1 := cell_below hb c1
  clear hb hs0 hq0
  go_wp2_with fail
  go_returns
  exact ⟨by first | rfl | (simp; done) | (simp; omega), hq1⟩

set_option maxRecDepth 100000 in
set_option maxHeartbeats 1000000 in
theorem lrows_kind (od s : Int) (a : Option Addr) (len cap : Nat) (us : List Int) (w : World) (hs : RowAt 0 spanCells w) (hsm : len ≤ 300) (hk : BadOrder od) :
    Calls Tryd.prog 5 #[whichV od s, .slice a len cap] w fun e w' => e = .returned (.bool true) ∧ Below w.heap.size w w' := by
  go_enter Tryd.func5, Tryd.ntmps5
  have hq0 : Below w.heap.size w (w.alloc (.cells #[i6 od, i6 s] 23)) := q_alloc (Below.refl _ _) _
  have c0 : (w.alloc (.cells #[i6 od, i6 s] 23)).cell? ⟨w.heap.size, 0, none⟩ = some (i6 od) := cell_new rfl
  have c1 : (w.alloc (.cells #[i6 od, i6 s] 23)).cell? ⟨w.heap.size, 1, none⟩ = some (i6 s) := cell_new rfl
  have hs0 := hs.below hq0
  go_wp2_with fail
  generalize w.alloc (.cells #[i6 od, i6 s] 23) = W0 at hq0 c0 c1 hs0 ⊢
  refine (row_kind od s _ _ _ _ hk).mono ?_
  rintro e W1 ⟨rfl, hb⟩
  have hq1 := q_step hq0 hb
  have hs1 := hs.below hq1
  replace c0 := cell_below hb c0
  replace c1 := cell_below hb c1
  clear hb hs0 hq0
  go_wp2_with fail
  refine (rrow_kind od s _ _ _ _ hk).mono ?_
  rintro e W2 ⟨rfl, hb⟩
  have hq2 := q_step hq1 hb
  have hs2 := hs.below hq2
  replace c0 := cell_below hb c0
  replace c1 := cell_below hb c1
  clear hb hs1 hq1
  go_wp2_with fail
  refine (awake_any _ hs2).mono ?_
  rintro e W3 ⟨rfl, hb⟩
  have hq3 := q_step hq2 hb
  have hs3 := hs.below hq3
  replace c0 := cell_below hb c0
  replace c1 := cell_below hb c1
  clear hb hs2 hq2
  go_wp2_with fail
  go_returns
  exact ⟨by first | rfl | (simp; done) | (simp; omega), hq3⟩

set_option maxRecDepth 100000 in
set_option maxHeartbeats 1000000 in
theorem lrows_size (od s : Int) (a : Option Addr) (len cap : Nat) (us : List Int) (w : World) (hs : RowAt 0 spanCells w) (hsm : len ≤ 300) (ho : od = 0 ∨ od = 1) (hk : BadSize s) :
    Calls Tryd.prog 5 #[whichV od s, .slice a len cap] w fun e w' => e = .returned (.bool true) ∧ Below w.heap.size w w' := by
  go_enter Tryd.func5, Tryd.ntmps5
  have hq0 : Below w.heap.size w (w.alloc (.cells #[i6 od, i6 s] 23)) := q_alloc (Below.refl _ _) _
  have c0 : (w.alloc (.cells #[i6 od, i6 s] 23)).cell? ⟨w.heap.size, 0, none⟩ = some (i6 od) := cell_new rfl
  have c1 : (w.alloc (.cells #[i6 od, i6 s] 23)).cell? ⟨w.heap.size, 1, none⟩ = some (i6 s) := cell_new rfl
  have hs0 := hs.below hq0
  go_wp2_with fail
  generalize w.alloc (.cells #[i6 od, i6 s] 23) = W0 at hq0 c0 c1 hs0 ⊢
  refine (row_size od s _ _ _ _ hs0 ho hk).mono ?_
  rintro e W1 ⟨rfl, hb⟩
  have hq1 := q_step hq0 hb
  have hs1 := hs.below hq1
  replace c0 := cell_below hb c0
  replace c1 := cell_below hb c1
  clear hb hs0 hq0
  go_wp2_with fail
  refine (rrow_size od s _ _ _ _ ho hk).mono ?_
  rintro e W2 ⟨rfl, hb⟩
  have hq2 := q_step hq1 hb
  have hs2 := hs.below hq2
  replace c0 := cell_below hb c0
  replace c1 := cell_below hb c1
  clear hb hs1 hq1
  go_wp2_with fail
  refine (awake_any _ hs2).mono ?_
  rintro e W3 ⟨rfl, hb⟩
  have hq3 := q_step hq2 hb
  have hs3 := hs.below hq3
  replace c0 := cell_below hb c0
  replace c1 := cell_below hb c1
  clear hb hs2 hq2
  go_wp2_with fail
  go_returns
  exact ⟨by first | rfl | (simp; done) | (simp; omega), hq3⟩

set_option maxRecDepth 100000 in
set_option maxHeartbeats 1000000 in
theorem lrows_out (od s : Int) (a : Option Addr) (len cap : Nat) (us : List Int) (w : World) (hs : RowAt 0 spanCells w) (hlen : us.length = len) (hv : IsInts w .i64 (.slice a len cap) us) (hsm : len ≤ 300) (ho : od = 0 ∨ od = 1) (n lo hi : Int) (h : IsSpan s n lo hi) (hin : allIn lo hi us = false) :
    Calls Tryd.prog 5 #[whichV od s, .slice a len cap] w fun e w' => e = .returned (.bool true) ∧ Below w.heap.size w w' := by
  have HV := Lib.hid hv
  clear hv
  have HN := Lib.hid h
  have HR := Lib.hid (show rowRes od n lo hi us = strErr 1 by unfold rowRes; rw [hin]; rfl)
  clear h
  go_enter Tryd.func5, Tryd.ntmps5
  have hq0 : Below w.heap.size w (w.alloc (.cells #[i6 od, i6 s] 23)) := q_alloc (Below.refl _ _) _
  have c0 : (w.alloc (.cells #[i6 od, i6 s] 23)).cell? ⟨w.heap.size, 0, none⟩ = some (i6 od) := cell_new rfl
  have c1 : (w.alloc (.cells #[i6 od, i6 s] 23)).cell? ⟨w.heap.size, 1, none⟩ = some (i6 s) := cell_new rfl
  have hs0 := hs.below hq0
  go_wp2_with fail
  generalize w.alloc (.cells #[i6 od, i6 s] 23) = W0 at hq0 c0 c1 hs0 ⊢
  refine (row_ints od s n lo hi _ _ us _ hs0 ho HN.out (by omega) (isI_below HV.out hq0) HR.out).mono ?_
  rintro e W1 ⟨rfl, hb⟩
  have hq1 := q_step hq0 hb
  have hs1 := hs.below hq1
  replace c0 := cell_below hb c0
  replace c1 := cell_below hb c1
  clear hb hs0 hq0
  go_wp2_with fail
  refine (rrow_ints od s n lo hi _ _ us _ ho HN.out (by omega) (isI_below HV.out hq1) HR.out).mono ?_
  rintro e W2 ⟨rfl, hb⟩
  have hq2 := q_step hq1 hb
  have hs2 := hs.below hq2
  replace c0 := cell_below hb c0
  replace c1 := cell_below hb c1
  clear hb hs1 hq1
  go_wp2_with fail
  refine (awake_any _ hs2).mono ?_
  rintro e W3 ⟨rfl, hb⟩
  have hq3 := q_step hq2 hb
  have hs3 := hs.below hq3
  replace c0 := cell_below hb c0
  replace c1 := cell_below hb c1
  clear hb hs2 hq2
  go_wp2_with fail
  go_returns
  exact ⟨by first | rfl | (simp; done) | (simp; omega), hq3⟩

set_option maxRecDepth 100000 in
set_option maxHeartbeats 1000000 in
theorem lrows_in (od s : Int) (a : Option Addr) (len cap : Nat) (us : List Int) (w : World) (hs : RowAt 0 spanCells w) (hlen : us.length = len) (hv : IsInts w .i64 (.slice a len cap) us) (hsm : len ≤ 300) (ho : od = 0 ∨ od = 1) (n lo hi : Int) (h : IsSpan s n lo hi) (m : Nat) (hm : (m : Int) = n) (hin : allIn lo hi us = true) :
    Calls Tryd.prog 5 #[whichV od s, .slice a len cap] w fun e w' => e = .returned (.bool true) ∧ Below w.heap.size w w' := by
  have HV := Lib.hid hv
  clear hv
  have HN := Lib.hid h
  have HR := Lib.hid (show rowRes od n lo hi us = strOk (encRow od n us) by unfold rowRes; rw [hin]; rfl)
  have hsz := h.size
  have HD := Lib.hid (show decRow od lo hi m (encRow od n us) len = us by rw [← hlen]; exact decRow_enc h od m hm us hin)
  have hmt : n.toNat = m := by omega
  have HL := Lib.hid (show (encRow od n us).length = len * m by rw [encRow_length od us h.size, hmt, hlen])
  have HLb := Lib.hid (show len * m ≤ 262144 by have := Nat.mul_le_mul (show len ≤ 300 by omega) (show m ≤ 4 by omega); omega)
  clear h
  go_enter Tryd.func5, Tryd.ntmps5
  have hq0 : Below w.heap.size w (w.alloc (.cells #[i6 od, i6 s] 23)) := q_alloc (Below.refl _ _) _
  have c0 : (w.alloc (.cells #[i6 od, i6 s] 23)).cell? ⟨w.heap.size, 0, none⟩ = some (i6 od) := cell_new rfl
  have c1 : (w.alloc (.cells #[i6 od, i6 s] 23)).cell? ⟨w.heap.size, 1, none⟩ = some (i6 s) := cell_new rfl
  have hs0 := hs.below hq0
  go_wp2_with fail
  generalize w.alloc (.cells #[i6 od, i6 s] 23) = W0 at hq0 c0 c1 hs0 ⊢
  refine (row_ints od s n lo hi _ _ us _ hs0 ho HN.out (by omega) (isI_below HV.out hq0) HR.out).mono ?_
  rintro e W1 ⟨rfl, hb⟩
  have hq1 := q_step hq0 hb
  have hs1 := hs.below hq1
  replace c0 := cell_below hb c0
  replace c1 := cell_below hb c1
  clear hb hs0 hq0
  go_wp2_with fail
  refine (rrow_ints od s n lo hi _ _ us _ ho HN.out (by omega) (isI_below HV.out hq1) HR.out).mono ?_
  rintro e W2 ⟨rfl, hb⟩
  have hq2 := q_step hq1 hb
  have hs2 := hs.below hq2
  replace c0 := cell_below hb c0
  replace c1 := cell_below hb c1
  clear hb hs1 hq1
  go_wp2_with fail
  refine (rows_ok od s n lo hi m len (encRow od n us) _ hs2 ho HN.out (encRow_bytes _ _ _) hm HL.out (by rw [HL.out]; exact HLb.out)).mono ?_
  rintro e W3 ⟨G, rfl, hG, hO, hb⟩
  have hq3 := q_step hq2 hb
  have hs3 := hs.below hq3
  replace c0 := cell_below hb c0
  replace c1 := cell_below hb c1
  rw [HD.out] at hO
  have HI := Lib.hid (isI_own hO (by unfold maxLen; omega) hlen)
  clear hO hG
  clear hb hs2 hq2
  go_wp2_with fail
  refine (same_ints _ _ us _ HI.out (isI_below HV.out hq3) (by omega)).mono ?_
  rintro e W4 ⟨rfl, hb⟩
  have hq4 := q_step hq3 hb
  have hs4 := hs.below hq4
  replace c0 := cell_below hb c0
  replace c1 := cell_below hb c1
  clear hb hs3 hq3
  go_wp2_with fail
  refine (awake_any _ hs4).mono ?_
  rintro e W5 ⟨rfl, hb⟩
  have hq5 := q_step hq4 hb
  have hs5 := hs.below hq5
  replace c0 := cell_below hb c0
  replace c1 := cell_below hb c1
  clear hb hs4 hq4
  go_wp2_with fail
  go_returns
  exact ⟨by first | rfl | (simp; done) | (simp; omega), hq5⟩

theorem lrows_any (od s : Int) (a : Option Addr) (len cap : Nat) (us : List Int) (w : World) (hs : RowAt 0 spanCells w) (hlen : us.length = len) (hv : IsInts w .i64 (.slice a len cap) us) :
    Calls Tryd.prog 5 #[whichV od s, .slice a len cap] w fun e w' => e = .returned (.bool true) ∧ Below w.heap.size w w' := by
  by_cases hl : len ≤ 300
  · by_cases ho : od = 0 ∨ od = 1
    · by_cases hk : BadSize s
      · exact lrows_size od s a len cap us w hs hl ho hk
      · obtain ⟨n, lo, hi, h⟩ := isSpan_ex (Classical.not_not.1 hk)
        have hsz := h.size
        cases hin : allIn lo hi us
        · exact lrows_out od s a len cap us w hs hlen hv hl ho n lo hi h hin
        · exact lrows_in od s a len cap us w hs hlen hv hl ho n lo hi h n.toNat (by omega) hin
    · exact lrows_kind od s a len cap us w hs hl ho
  · exact lrows_much od s a len cap us w hs (by omega)

set_option maxRecDepth 100000 in
set_option maxHeartbeats 1000000 in
theorem lreads_much (od s : Int) (xs : List Int) (w : World) (hs : RowAt 0 spanCells w) (hbig : 600 < xs.length) :
    Calls Tryd.prog 6 #[whichV od s, .string (strOfNums xs)] w fun e w' => e = .returned (.bool true) ∧ Below w.heap.size w w' := by
  have hsz := strOfNums_size xs
  go_enter Tryd.func6, Tryd.ntmps6
  have hq0 : Below w.heap.size w (w.alloc (.cells #[i6 od, i6 s] 23)) := q_alloc (Below.refl _ _) _
  have c0 : (w.alloc (.cells #[i6 od, i6 s] 23)).cell? ⟨w.heap.size, 0, none⟩ = some (i6 od) := cell_new rfl
  have c1 : (w.alloc (.cells #[i6 od, i6 s] 23)).cell? ⟨w.heap.size, 1, none⟩ = some (i6 s) := cell_new rfl
  have hs0 := hs.below hq0
  go_wp2_with fail
  generalize w.alloc (.cells #[i6 od, i6 s] 23) = W0 at hq0 c0 c1 hs0 ⊢
  refine (awake_any _ hs0).mono ?_
  rintro e W1 ⟨rfl, hb⟩
  have hq1 := q_step hq0 hb
  have hs1 := hs.below hq1
  replace c0 := cell_below hb c0
  replace c1 := cell_below hb c1
  clear hb hs0 hq0
  go_wp2_with fail
  go_returns
  exact ⟨by first | rfl | (simp; done) | (simp; omega), hq1⟩

set_option maxRecDepth 100000 in
set_option maxHeartbeats 1000000 in
theorem lreads_kind (od s : Int) (xs : List Int) (w : World) (hs : RowAt 0 spanCells w) (hsm : xs.length ≤ 600) (hk : BadOrder od) :
    Calls Tryd.prog 6 #[whichV od s, .string (strOfNums xs)] w fun e w' => e = .returned (.bool true) ∧ Below w.heap.size w w' := by
  have hsz := strOfNums_size xs
  go_enter Tryd.func6, Tryd.ntmps6
  have hq0 : Below w.heap.size w (w.alloc (.cells #[i6 od, i6 s] 23)) := q_alloc (Below.refl _ _) _
  have c0 : (w.alloc (.cells #[i6 od, i6 s] 23)).cell? ⟨w.heap.size, 0, none⟩ = some (i6 od) := cell_new rfl
  have c1 : (w.alloc (.cells #[i6 od, i6 s] 23)).cell? ⟨w.heap.size, 1, none⟩ = some (i6 s) := cell_new rfl
  have hs0 := hs.below hq0
  go_wp2_with fail
  generalize w.alloc (.cells #[i6 od, i6 s] 23) = W0 at hq0 c0 c1 hs0 ⊢
  refine (rows_kind od s _ _ hk).mono ?_
  rintro e W1 ⟨rfl, hb⟩
  have hq1 := q_step hq0 hb
  have hs1 := hs.below hq1
  replace c0 := cell_below hb c0
  replace c1 := cell_below hb c1
  clear hb hs0 hq0
  go_wp2_with fail
  refine (rrows_kind od s _ _ hk).mono ?_
  rintro e W2 ⟨rfl, hb⟩
  have hq2 := q_step hq1 hb
  have hs2 := hs.below hq2
  replace c0 := cell_below hb c0
  replace c1 := cell_below hb c1
  clear hb hs1 hq1
  go_wp2_with fail
  refine (same_none _ _ _ _ _).mono ?_
  rintro e W3 ⟨rfl, hb⟩
  have hq3 := q_step hq2 hb
  have hs3 := hs.below hq3
  replace c0 := cell_below hb c0
  replace c1 := cell_below hb c1
  clear hb hs2 hq2
  go_wp2_with fail
  refine (awake_any _ hs3).mono ?_
  rintro e W4 ⟨rfl, hb⟩
  have hq4 := q_step hq3 hb
  have hs4 := hs.below hq4
  replace c0 := cell_below hb c0
  replace c1 := cell_below hb c1
  clear hb hs3 hq3
  go_wp2_with fail
  go_returns
  exact ⟨by first | rfl | (simp; done) | (simp; omega), hq4⟩

set_option maxRecDepth 100000 in
set_option maxHeartbeats 1000000 in
theorem lreads_size (od s : Int) (xs : List Int) (w : World) (hs : RowAt 0 spanCells w) (hsm : xs.length ≤ 600) (ho : od = 0 ∨ od = 1) (hk : BadSize s) :
    Calls Tryd.prog 6 #[whichV od s, .string (strOfNums xs)] w fun e w' => e = .returned (.bool true) ∧ Below w.heap.size w w' := by
  have hsz := strOfNums_size xs
  go_enter Tryd.func6, Tryd.ntmps6
  have hq0 : Below w.heap.size w (w.alloc (.cells #[i6 od, i6 s] 23)) := q_alloc (Below.refl _ _) _
  have c0 : (w.alloc (.cells #[i6 od, i6 s] 23)).cell? ⟨w.heap.size, 0, none⟩ = some (i6 od) := cell_new rfl
  have c1 : (w.alloc (.cells #[i6 od, i6 s] 23)).cell? ⟨w.heap.size, 1, none⟩ = some (i6 s) := cell_new rfl
  have hs0 := hs.below hq0
  go_wp2_with fail
  generalize w.alloc (.cells #[i6 od, i6 s] 23) = W0 at hq0 c0 c1 hs0 ⊢
  refine (rows_size od s _ _ hs0 ho hk).mono ?_
  rintro e W1 ⟨rfl, hb⟩
  have hq1 := q_step hq0 hb
  have hs1 := hs.below hq1
  replace c0 := cell_below hb c0
  replace c1 := cell_below hb c1
  clear hb hs0 hq0
  go_wp2_with fail
  refine (rrows_size od s _ _ ho hk).mono ?_
  rintro e W2 ⟨rfl, hb⟩
  have hq2 := q_step hq1 hb
  have hs2 := hs.below hq2
  replace c0 := cell_below hb c0
  replace c1 := cell_below hb c1
  clear hb hs1 hq1
  go_wp2_with fail
  refine (same_none _ _ _ _ _).mono ?_
  rintro e W3 ⟨rfl, hb⟩
  have hq3 := q_step hq2 hb
  have hs3 := hs.below hq3
  replace c0 := cell_below hb c0
  replace c1 := cell_below hb c1
  clear hb hs2 hq2
  go_wp2_with fail
  refine (awake_any _ hs3).mono ?_
  rintro e W4 ⟨rfl, hb⟩
  have hq4 := q_step hq3 hb
  have hs4 := hs.below hq4
  replace c0 := cell_below hb c0
  replace c1 := cell_below hb c1
  clear hb hs3 hq3
  go_wp2_with fail
  go_returns
  exact ⟨by first | rfl | (simp; done) | (simp; omega), hq4⟩

set_option maxRecDepth 100000 in
set_option maxHeartbeats 1000000 in
theorem lreads_short (od s : Int) (xs : List Int) (w : World) (hs : RowAt 0 spanCells w) (hsm : xs.length ≤ 600) (ho : od = 0 ∨ od = 1) (n lo hi : Int) (h : IsSpan s n lo hi) (hm : ¬ (xs.length : Int) % n = 0) :
    Calls Tryd.prog 6 #[whichV od s, .string (strOfNums xs)] w fun e w' => e = .returned (.bool true) ∧ Below w.heap.size w w' := by
  have hsz := strOfNums_size xs
  have HN := Lib.hid h
  have HM := Lib.hid hm
  clear h hm
  go_enter Tryd.func6, Tryd.ntmps6
  have hq0 : Below w.heap.size w (w.alloc (.cells #[i6 od, i6 s] 23)) := q_alloc (Below.refl _ _) _
  have c0 : (w.alloc (.cells #[i6 od, i6 s] 23)).cell? ⟨w.heap.size, 0, none⟩ = some (i6 od) := cell_new rfl
  have c1 : (w.alloc (.cells #[i6 od, i6 s] 23)).cell? ⟨w.heap.size, 1, none⟩ = some (i6 s) := cell_new rfl
  have hs0 := hs.below hq0
  go_wp2_with fail
  generalize w.alloc (.cells #[i6 od, i6 s] 23) = W0 at hq0 c0 c1 hs0 ⊢
  refine (rows_short od s n lo hi _ _ hs0 ho HN.out (by omega) (by rw [hsz]; exact HM.out)).mono ?_
  rintro e W1 ⟨rfl, hb⟩
  have hq1 := q_step hq0 hb
  have hs1 := hs.below hq1
  replace c0 := cell_below hb c0
  replace c1 := cell_below hb c1
  clear hb hs0 hq0
  go_wp2_with fail
  refine (rrows_short od s n lo hi _ _ ho HN.out (by omega) (by rw [hsz]; exact HM.out)).mono ?_
  rintro e W2 ⟨rfl, hb⟩
  have hq2 := q_step hq1 hb
  have hs2 := hs.below hq2
  replace c0 := cell_below hb c0
  replace c1 := cell_below hb c1
  clear hb hs1 hq1
  go_wp2_with fail
  refine (same_none _ _ _ _ _).mono ?_
  rintro e W3 ⟨rfl, hb⟩
  have hq3 := q_step hq2 hb
  have hs3 := hs.below hq3
  replace c0 := cell_below hb c0
  replace c1 := cell_below hb c1
  clear hb hs2 hq2
  go_wp2_with fail
  refine (awake_any _ hs3).mono ?_
  rintro e W4 ⟨rfl, hb⟩
  have hq4 := q_step hq3 hb
  have hs4 := hs.below hq4
  replace c0 := cell_below hb c0
  replace c1 := cell_below hb c1
  clear hb hs3 hq3
  go_wp2_with fail
  go_returns
  exact ⟨by first | rfl | (simp; done) | (simp; omega), hq4⟩

set_option maxRecDepth 100000 in
set_option maxHeartbeats 1000000 in
theorem lreads_in (od s : Int) (xs : List Int) (w : World) (hs : RowAt 0 spanCells w) (hx : IsBytes xs) (hsm : xs.length ≤ 600) (ho : od = 0 ∨ od = 1) (n lo hi : Int) (h : IsSpan s n lo hi) (m c : Nat) (hm : (m : Int) = n) (hc : xs.length = c * m) :
    Calls Tryd.prog 6 #[whichV od s, .string (strOfNums xs)] w fun e w' => e = .returned (.bool true) ∧ Below w.heap.size w w' := by
  have hsz := strOfNums_size xs
  have hsp := h.size
  have hcl : c ≤ 600 := by
    have : c ≤ c * m := Nat.le_mul_of_pos_right c (by omega)
    omega
  have HR := Lib.hid (show rowRes od n lo hi (decRow od lo hi m xs c) = strOk xs by
    unfold rowRes
    rw [allIn_dec h od m c hm xs hx hc, encRow_dec h od m c hm xs hx hc c (Nat.le_refl _), ← hc, List.take_length]
    rfl)
  have HN := Lib.hid h
  have HX := Lib.hid hx
  have HC := Lib.hid hc
  clear h hx hc
  go_enter Tryd.func6, Tryd.ntmps6
  have hq0 : Below w.heap.size w (w.alloc (.cells #[i6 od, i6 s] 23)) := q_alloc (Below.refl _ _) _
  have c0 : (w.alloc (.cells #[i6 od, i6 s] 23)).cell? ⟨w.heap.size, 0, none⟩ = some (i6 od) := cell_new rfl
  have c1 : (w.alloc (.cells #[i6 od, i6 s] 23)).cell? ⟨w.heap.size, 1, none⟩ = some (i6 s) := cell_new rfl
  have hs0 := hs.below hq0
  go_wp2_with fail
  generalize w.alloc (.cells #[i6 od, i6 s] 23) = W0 at hq0 c0 c1 hs0 ⊢
  refine (rows_ok od s n lo hi m c xs _ hs0 ho HN.out HX.out hm HC.out (by omega)).mono ?_
  rintro e W1 ⟨G, rfl, hG, hO, hb⟩
  have hq1 := q_step hq0 hb
  have hs1 := hs.below hq1
  replace c0 := cell_below hb c0
  replace c1 := cell_below hb c1
  have HI := Lib.hid (isI_own hO (by rw [decRow_length]; unfold maxLen; omega) (decRow_length _ _ _ _ _ _))
  clear hO hG
  clear hb hs0 hq0
  go_wp2_with fail
  refine (rrows_ok od s n lo hi m c xs _ ho HN.out HX.out hm HC.out (by omega)).mono ?_
  rintro e W2 ⟨v2, rfl, hO2, hb⟩
  have hq2 := q_step hq1 hb
  have hs2 := hs.below hq2
  replace c0 := cell_below hb c0
  replace c1 := cell_below hb c1
  have HI2 := Lib.hid (isI_ownL hO2)
  replace HI := Lib.hid (isI_below HI.out hb)
  clear hO2
  clear hb hs1 hq1
  go_wp2_with fail
  refine (same_ints _ _ (decRow od lo hi m xs c) _ HI.out HI2.out (by rw [decRow_length]; omega)).mono ?_
  rintro e W3 ⟨rfl, hb⟩
  have hq3 := q_step hq2 hb
  have hs3 := hs.below hq3
  replace c0 := cell_below hb c0
  replace c1 := cell_below hb c1
  replace HI := Lib.hid (isI_below HI.out hb)
  clear HI2
  clear hb hs2 hq2
  go_wp2_with fail
  refine (row_ints od s n lo hi _ _ (decRow od lo hi m xs c) _ hs3 ho HN.out (by rw [decRow_length]; omega) HI.out HR.out).mono ?_
  rintro e W4 ⟨rfl, hb⟩
  have hq4 := q_step hq3 hb
  have hs4 := hs.below hq4
  replace c0 := cell_below hb c0
  replace c1 := cell_below hb c1
  clear hb hs3 hq3
  go_wp2_with fail
  refine (awake_any _ hs4).mono ?_
  rintro e W5 ⟨rfl, hb⟩
  have hq5 := q_step hq4 hb
  have hs5 := hs.below hq5
  replace c0 := cell_below hb c0
  replace c1 := cell_below hb c1
  clear hb hs4 hq4
  go_wp2_with fail
  go_returns
  exact ⟨by first | rfl | (simp; done) | (simp; omega), hq5⟩

theorem lreads_any (od s : Int) (xs : List Int) (w : World) (hs : RowAt 0 spanCells w) (hx : IsBytes xs) :
    Calls Tryd.prog 6 #[whichV od s, .string (strOfNums xs)] w fun e w' => e = .returned (.bool true) ∧ Below w.heap.size w w' := by
  by_cases hl : xs.length ≤ 600
  · by_cases ho : od = 0 ∨ od = 1
    · by_cases hk : BadSize s
      · exact lreads_size od s xs w hs hl ho hk
      · obtain ⟨n, lo, hi, h⟩ := isSpan_ex (Classical.not_not.1 hk)
        have hsz := h.size
        by_cases hm : (xs.length : Int) % n = 0
        · obtain ⟨m, hmn⟩ : ∃ m : Nat, (m : Int) = n := ⟨n.toNat, by omega⟩
          rw [← hmn, ← Int.natCast_emod] at hm
          have hm' : xs.length % m = 0 := by exact_mod_cast hm
          exact lreads_in od s xs w hs hx hl ho n lo hi h m (xs.length / m) hmn (by rw [Nat.div_mul_cancel (Nat.dvd_of_mod_eq_zero hm')])
        · exact lreads_short od s xs w hs hl ho n lo hi h hm
    · exact lreads_kind od s xs w hs hl ho
  · exact lreads_much od s xs w hs (by omega)
theorem lreads_str (od s : Int) (b : ByteArray) (w : World) (hs : RowAt 0 spanCells w) :
    Calls Tryd.prog 6 #[whichV od s, .string b] w fun e w' => e = .returned (.bool true) ∧ Below w.heap.size w w' := by
  have := lreads_any od s (numsOf b) w hs (numsOf_bytes b)
  rwa [str_numsOf] at this
end Go.Proofs.YtbbblopackffiaaDoor
