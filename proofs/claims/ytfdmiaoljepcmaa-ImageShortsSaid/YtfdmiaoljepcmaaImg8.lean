/- Layer 25: the walks of ImageBack and ImageBounds. -/
import Derived.Test.YtfdmiaoljepcmaaImg7
namespace Go.Proofs.Ytfdmiaoljepcmaa
open Go Go.RowKit
set_option linter.unusedSimpArgs false
set_option linter.unusedVariables false

theorem OwnB.made (w : World) (N : Nat) (t : TypeId) : OwnB (w.alloc (.cells (madeCells #[u8v 0] N) t)) w.heap.size (List.replicate N 0) := by
  refine ⟨by simp [World.size_alloc], fun j hj => ?_⟩
  rw [List.length_replicate] at hj
  refine ⟨cell_new ?_, World.frozen?_alloc_new _ _ _ _⟩
  rw [← Array.getElem?_toList, toList_madeCells_one, List.getElem?_replicate, if_pos hj]
  simp [List.getD_eq_getElem?_getD, List.getElem?_replicate, hj]
theorem same_bytes {n : Nat} {p : Int} (h : 0 ≤ p) (h' : p < 256) : IsBytes (List.replicate n p) := fun x hx => by
  rw [List.mem_replicate] at hx
  omega
theorem conv_own {w : World} {g : Nat} {xs : List Int} {n : Nat} (h : OwnB w g xs) (hn : xs.length = n) : (convert 28 9 (.slice (some ⟨g, 0, none⟩) n n)).run Try.prog w = .ok (.string (strOfNums xs)) w :=
  run_convert_bytes_arg (P := Try.prog) w 28 5 und_bytes und_byte g 0 n n xs hn (fun i hi => by
    rw [Nat.zero_add]; exact (h.at_ i (by omega)).1) 9 und_string

set_option maxRecDepth 100000 in
set_option maxHeartbeats 2000000 in
theorem lback_any (b : List Int) (p n0 : Int) (w : World) (hb : IsBytes b) (hp0 : 0 ≤ p) (hp1 : p < 256) (hn0 : 0 ≤ n0) (hn1 : n0 < 65536) :
    Calls Try.prog 5 #[.string (strOfNums b), u8v p, .int .u16 n0] w fun e w' => e = .returned (.bool true) ∧ Below w.heap.size w w' := by
  obtain ⟨i0, hi, hz0, hz1, hz2⟩ := info_parts' info_byte
  have hsb := strOfNums_size b
  have HB := Lib.hid hb
  clear hb
  by_cases h1 : 20000 < b.length
  · have g1 : (20000 : Int) < (b.length : Int) := by omega
    go_enter Try.func5, Try.ntmps5
    go_wp2_with fail
    refine (awake_any _).mono ?_
    rintro e w1 ⟨rfl, hq⟩
    go_wp2_with fail
    go_returns
    exact ⟨by first | rfl | (simp; done), hq⟩
  have g1 : ¬ (20000 : Int) < (b.length : Int) := by omega
  obtain ⟨N, hN⟩ : ∃ N : Nat, n0 = (N : Int) := ⟨n0.toNat, by omega⟩
  subst hN
  have HN1 := Lib.hid (show N < 65536 by omega)
  have HP0 := Lib.hid (show 0 ≤ p ∧ p < 256 from ⟨hp0, hp1⟩)
  clear hn0 hn1 hp0 hp1
  have d1 : ((b.length : Int) + 127).tdiv 128 = ((b.length : Int) + 127) / 128 := by rw [Int.tdiv_eq_ediv_of_nonneg (by omega)]
  have q1 : IntKind.i64.wrap (((b.length : Int) + 127) / 128) = ((b.length : Int) + 127) / 128 := IntWalk.i64_in _ (by omega)
  have q2 : IntKind.i64.wrap ((b.length : Int) + ((b.length : Int) + 127) / 128) = (b.length : Int) + ((b.length : Int) + 127) / 128 := IntWalk.i64_in _ (by omega)
  go_enter Try.func5, Try.ntmps5
  go_wp2_with fail
  refine (short_any b _ HB.out (by omega)).mono ?_
  rintro e w1 ⟨s, rfl, hs, hsb1, hq1⟩
  have hl1 := (short_len hs).1
  have HS := Lib.hid hs
  have HSB := Lib.hid hsb1
  clear hs hsb1
  have hss := strOfNums_size s
  have g2 : ¬ (b.length : Int) + ((b.length : Int) + 127) / 128 < (s.length : Int) := by omega
  go_wp2_with fail
  refine (long_back _ HS.out HSB.out (by omega)).mono ?_
  rintro e w2 ⟨rfl, hb2⟩
  have hq2 := q_step hq1 hb2
  clear hq1 hb2
  go_wp2_with (first
    | (at_make; refine wpList_make_row _ rfl _ _ 28 rfl 5 i0 (u8v 0) und_bytes hi hz0 hz1 rfl .u16 .u16 N rfl rfl ?cb ?cm ?_)
    | fail)
  case cb => rw [hz2]; have := HN1.out; omega
  case cm => have := HN1.out; omega
  have hq0 : Below w.heap.size w (w2.alloc (.cells (madeCells #[u8v 0] N) 5)) := q_alloc hq2 _
  have hown := OwnB.made w2 N 5
  have hGB : w.heap.size ≤ w2.heap.size := hq2.size
  generalize w2.alloc (.cells (madeCells #[u8v 0] N) 5) = w3 at hq0 hown ⊢
  generalize w2.heap.size = G at hown hGB ⊢
  clear hq2
  go_wp2_with fail
  go_loopw [49] (fun i wr => ∃ k : Nat, k ≤ N ∧ i = .int .i64 k ∧ OwnB wr G (List.replicate k p ++ List.replicate (N - k) 0) ∧ Below w.heap.size w wr)
    (fun i _ => N - (intOf i).toNat)
  case atStart => exact ⟨0, Nat.zero_le _, rfl, by simpa using hown, hq0⟩
  case round =>
    clear hown hq0
    obtain ⟨k, hk, rfl, hown, hnx⟩ := hrel
    by_cases hlt : k < N
    · have hki : (k : Int) < (N : Int) := by omega
      have hNb : N ≤ 65536 := Nat.le_of_lt HN1.out
      have hkw : IntKind.i64.wrap ((k : Int) + 1) = (k : Int) + 1 := IntWalk.i64_in _ (by omega)
      have hgk := hown.at_ k (by rw [List.length_append, List.length_replicate, List.length_replicate]; omega)
      have hown2 := hown.set (j := k) (by rw [List.length_append, List.length_replicate, List.length_replicate]; omega) p
      have hlist : (List.replicate k p ++ List.replicate (N - k) 0).set k p = List.replicate (k + 1) p ++ List.replicate (N - (k + 1)) 0 := by
        have := put_room [p] (List.replicate k p) (N - k) k (by rw [List.length_replicate]) (by simp; omega)
        rw [List.replicate_succ']
        exact this
      rw [hlist] at hown2
      have hq2 : Below w.heap.size w (wr.setCell ⟨G, k, none⟩ (u8v p)) := hnx.setCell hGB _
      clear hlist hown hnx
      go_wp2_with fail
      go_roundw
      case rel => exact ⟨k + 1, by omega, by go_num, hown2, hq2⟩
      case measure => simp [intOf]; omega
    · have hkN : k = N := by omega
      subst hkN
      rw [Nat.sub_self, List.replicate_zero, List.append_nil] at hown
      have hcv := conv_own hown (List.length_replicate)
      have HP := Lib.hid (same_bytes (n := k) HP0.out.1 HP0.out.2)
      have hrl : (List.replicate k p).length = k := List.length_replicate
      generalize hRP : List.replicate k p = rp at hown hcv HP hrl
      have HRP := Lib.hid hRP
      clear hRP
      go_wp2_with fail
      try (rw [hcv]; go_wp2_with fail)
      have hkN2 := HN1.out
      refine (short_any rp _ HP.out (by omega)).mono ?_
      rintro e w4 ⟨t, rfl, ht, htb, hb4⟩
      have hl2 := short_same ht k p HRP.out.symm
      have HT := Lib.hid ht
      have HTB := Lib.hid htb
      have hts := strOfNums_size t
      have hq4 := q_step hnx hb4
      have hown4 := hown.below hb4
      clear ht htb hb4 hown hnx hcv
      go_wp2_with fail
      refine (long_back _ HT.out HTB.out (by omega)).mono ?_
      rintro e w5 ⟨rfl, hb5⟩
      have hq5 := q_step hq4 hb5
      have hown5 := hown4.below hb5
      clear hown4 hq4 hb5
      go_wp2_with fail
      refine (awake_any _).mono ?_
      rintro e w6 ⟨rfl, hb6⟩
      have hq6 := q_step hq5 hb6
      have hcv := conv_own (hown5.below hb6) hrl
      have d2 : (k : Int).tdiv 130 = (k : Int) / 130 := by rw [Int.tdiv_eq_ediv_of_nonneg (by omega)]
      have q3 : IntKind.i64.wrap (k : Int) = (k : Int) := IntWalk.i64_in _ (by omega)
      have q4 : IntKind.i64.wrap ((k : Int) / 130) = (k : Int) / 130 := IntWalk.i64_in _ (by omega)
      have q5 : IntKind.i64.wrap ((k : Int) / 130 + 1) = (k : Int) / 130 + 1 := IntWalk.i64_in _ (by omega)
      have q6 : IntKind.i64.wrap (2 * ((k : Int) / 130 + 1)) = 2 * ((k : Int) / 130 + 1) := IntWalk.i64_in _ (by omega)
      have q7 : IntKind.i64.wrap (2 * ((k : Int) / 130 + 1) + 1) = 2 * ((k : Int) / 130 + 1) + 1 := IntWalk.i64_in _ (by omega)
      have g3 : (t.length : Int) ≤ 2 * ((k : Int) / 130 + 1) + 1 := by omega
      clear hown5 hq5 hb6 hkN2
      go_wp2_with fail
      try (rw [hcv]; go_wp2_with fail)
      go_returns
      exact ⟨by first | rfl | (simp; done), hq6⟩
theorem lback_str (b : ByteArray) (p n0 : Int) (w : World) (hp0 : 0 ≤ p) (hp1 : p < 256) (hn0 : 0 ≤ n0) (hn1 : n0 < 65536) :
    Calls Try.prog 5 #[.string b, u8v p, .int .u16 n0] w fun e w' => e = .returned (.bool true) ∧ Below w.heap.size w w' := by
  have := lback_any (numsOf b) p n0 w (numsOf_bytes b) hp0 hp1 hn0 hn1
  rwa [str_numsOf] at this

theorem long_over {l s : List Int} {c p : Int} (w : World) (h : ShortOf l s) (hb : IsBytes s) (hl : l.length = 65536) (hc : 128 ≤ c) (hcp : IsBytes [c, p]) :
    Calls Try.prog 8 #[.string (strOfNums (s ++ [c, p]))] w fun e w' => e = .returned (strErr 4) ∧ Below w.heap.size w w' := by
  have hlen := (short_len h).1
  refine (long_any (s ++ [c, p]) w (hb.append hcp) (by rw [List.length_append]; simp; omega)).mono ?_
  rintro e w' ⟨R, rfl, hR, hq⟩
  exact ⟨by rw [over h hl hc hR], hq⟩
theorem str_x : (ByteArray.mk #[120]) = strOfNums [120] := rfl

set_option maxRecDepth 100000 in
set_option maxHeartbeats 2000000 in
theorem lbounds_any (p m : Int) (w : World) (hp0 : 0 ≤ p) (hp1 : p < 256) (hm0 : 0 ≤ m) (hm1 : m < 256) :
    Calls Try.prog 6 #[u8v p, u8v m] w fun e w' => e = .returned (.bool true) ∧ Below w.heap.size w w' := by
  obtain ⟨i0, hi, hz0, hz1, hz2⟩ := info_parts' info_byte
  obtain ⟨N, hN⟩ : ∃ N : Nat, N = 65536 := ⟨_, rfl⟩
  have HN := Lib.hid hN
  have HNi := Lib.hid (show (65536 : Int) = (N : Int) by omega)
  obtain ⟨c, hc⟩ : ∃ c, 128 + m % 128 = c := ⟨_, rfl⟩
  have f1 : m.tmod 128 = m % 128 := by rw [Int.tmod_eq_emod_of_nonneg hm0]
  have f2 : IntKind.u8.wrap (m % 128) = m % 128 := u8_in (by omega) (by omega)
  have f3 : IntKind.u8.wrap (128 + m % 128) = c := by rw [hc]; exact u8_in (by omega) (by omega)
  have hc1 : 128 ≤ c := by omega
  have hc2 : c < 256 := by omega
  have HCP := Lib.hid (show IsBytes [c, p] from fun x hx => by simp at hx; omega)
  have HP0 := Lib.hid (show 0 ≤ p ∧ p < 256 from ⟨hp0, hp1⟩)
  have HF := Lib.hid (And.intro f1 (And.intro f2 f3))
  clear hN hp0 hp1 hm0 hm1 f1 f2 f3 hc hc2
  go_enter Try.func6, Try.ntmps6
  go_wp2_with (first
    | (at_make; refine wpList_make_row _ rfl _ _ 28 rfl 5 i0 (u8v 0) und_bytes hi hz0 hz1 rfl .i64 .i64 N (congrArg (Value.int .i64) HNi.out) (congrArg (Value.int .i64) HNi.out) ?cb ?cm ?_)
    | fail)
  case cb => have := HN.out; first | omega | (rw [hz2]; omega)
  case cm => have := HN.out; omega
  have hq0 : Below w.heap.size w (w.alloc (.cells (madeCells #[u8v 0] N) 5)) := q_alloc (Below.refl _ _) _
  have hown := OwnB.made w N 5
  have hGB : w.heap.size ≤ w.heap.size := Nat.le_refl _
  generalize w.alloc (.cells (madeCells #[u8v 0] N) 5) = w3 at hq0 hown ⊢
  obtain ⟨G, hG⟩ : ∃ G, w.heap.size = G := ⟨_, rfl⟩
  have hGB : w.heap.size ≤ G := Nat.le_of_eq hG
  rw [hG] at hown
  rw [show (Value.slice (some ⟨w.heap.size, 0, none⟩) N N) = Value.slice (some ⟨G, 0, none⟩) N N by rw [hG]]
  clear hG
  go_wp2_with fail
  go_loopw [15] (fun i wr => ∃ k : Nat, k ≤ N ∧ i = .int .i64 k ∧ OwnB wr G (List.replicate k p ++ List.replicate (N - k) 0) ∧ Below w.heap.size w wr)
    (fun i _ => N - (intOf i).toNat)
  case atStart => exact ⟨0, Nat.zero_le _, rfl, by simpa using hown, hq0⟩
  case round =>
    clear hown hq0
    obtain ⟨k, hk, rfl, hown, hnx⟩ := hrel
    by_cases hlt : k < N
    · have hki : (k : Int) < (N : Int) := by omega
      have hNb : N ≤ 65536 := Nat.le_of_eq HN.out
      have hkw : IntKind.i64.wrap ((k : Int) + 1) = (k : Int) + 1 := IntWalk.i64_in _ (by omega)
      have hgk := hown.at_ k (by rw [List.length_append, List.length_replicate, List.length_replicate]; omega)
      have hown2 := hown.set (j := k) (by rw [List.length_append, List.length_replicate, List.length_replicate]; omega) p
      have hlist : (List.replicate k p ++ List.replicate (N - k) 0).set k p = List.replicate (k + 1) p ++ List.replicate (N - (k + 1)) 0 := by
        have := put_room [p] (List.replicate k p) (N - k) k (by rw [List.length_replicate]) (by simp; omega)
        rw [List.replicate_succ']
        exact this
      rw [hlist] at hown2
      have hq2 : Below w.heap.size w (wr.setCell ⟨G, k, none⟩ (u8v p)) := hnx.setCell hGB _
      clear hlist hown hnx
      go_wp2_with fail
      go_roundw
      case rel => exact ⟨k + 1, by omega, by go_num, hown2, hq2⟩
      case measure => simp [intOf]; omega
    · have hkN : k = N := by omega
      subst hkN
      rw [Nat.sub_self, List.replicate_zero, List.append_nil] at hown
      have hcv := conv_own hown (List.length_replicate)
      have HP := Lib.hid (same_bytes (n := k) HP0.out.1 HP0.out.2)
      have hrl : (List.replicate k p).length = k := List.length_replicate
      have HP1 := Lib.hid HP0.out
      generalize hRP : List.replicate k p = rp at hown hcv HP hrl
      clear hRP
      have HRL := Lib.hid (show rp.length = 65536 by rw [hrl]; exact HN.out)
      go_wp2_with fail
      try (rw [hcv]; go_wp2_with fail)
      refine (short_any rp _ HP.out (by have := HRL.out; omega)).mono ?_
      rintro e w4 ⟨t, rfl, ht, htb, hb4⟩
      have hl2 := Lib.hid (short_len ht).1
      have HT := Lib.hid ht
      have HTB := Lib.hid htb
      have hts := strOfNums_size t
      have hq4 := q_step hnx hb4
      have hown4 := hown.below hb4
      clear ht htb hb4 hown hnx hcv
      go_wp2_with fail
      refine (long_back _ HT.out HTB.out (by have := HRL.out; omega)).mono ?_
      rintro e w5 ⟨rfl, hb5⟩
      have hq5 := q_step hq4 hb5
      have hown5 := hown4.below hb5
      clear hown4 hq4 hb5
      have hcv := run_convert_bytes_arg (P := Try.prog) (w5.alloc (.cells #[u8v c, u8v p] 5)) 28 5 und_bytes und_byte w5.heap.size 0 2 2 [c, p] rfl (fun i hi => by
        match i, hi with
        | 0, _ => exact cell_new rfl
        | 1, _ => exact cell_new rfl) 9 und_string
      have hz2' : (strOfNums [c, p]).size = 2 := strOfNums_size _
      have hns : ¬ 9223372036854775807 < t.length + 2 := by have := hl2.out; have := HRL.out; omega
      have hap := str_append t [c, p]
      have f1 := HF.out.1
      have f2 := HF.out.2.1
      have f3 := HF.out.2.2
      have hq6 := q_alloc hq5 (.cells #[u8v c, u8v p] 5)
      have hown6 := hown5.alloc (.cells #[u8v c, u8v p] 5)
      go_wp2_with fail
      refine (long_over _ HT.out HTB.out HRL.out hc1 HCP.out).mono ?_
      rintro e w6 ⟨rfl, hb6⟩
      have hq7 := q_step hq6 hb6
      have hown7 := hown6.below hb6
      clear hown5 hown6 hq5 hq6 hb6 hap hcv hns f1 f2 f3 hz2'
      go_wp2_with fail
      refine (awake_any _).mono ?_
      rintro e w7 ⟨rfl, hb7⟩
      have hq8 := q_step hq7 hb7
      have hcv := conv_own (hown7.below hb7) hrl
      clear hown7 hq7 hb7
      have hrs := strOfNums_size rp
      have h120 : (strOfNums [120]).size = 1 := strOfNums_size _
      have hns : ¬ 9223372036854775807 < rp.length + 1 := by have := HRL.out; omega
      have hap := str_append rp [120]
      have hx := str_x
      have gk : (k : Int) = 65536 := by have := HN.out; omega
      have HGK := Lib.hid gk
      have gk2 : decide ((k : Int) = 65536) = true := decide_eq_true gk
      clear gk
      go_wp2_with fail
      refine (short_much (rp ++ [120]) _ (by rw [List.length_append, HRL.out]; simp)).mono ?_
      rintro e w8 ⟨rfl, hb8⟩
      have hq9 := q_step hq8 hb8
      go_wp2_with fail
      go_returns
      exact ⟨by first | rfl | (simp; done), hq9⟩
theorem lbounds_end : True := trivial
end Go.Proofs.Ytfdmiaoljepcmaa
