/- Layer 42: the document's pieces of numbers. -/
import Derived.Test.YtlaejolgjchfcaaPc19
namespace Go.Proofs.Ytlaejolgjchfcaa
open Go Go.RowKit Go.Maps
set_option linter.unusedSimpArgs false
set_option linter.unusedVariables false
set_option maxRecDepth 100000 in
theorem put_big (da : Option Addr) (cap : Nat) (us : List Int) (m a P : Nat) (w : World) (hv : IsI w (.slice da us.length cap) us) (hl : us.length ≤ 400) (hm : 1 ≤ m) (hm3 : m ≤ 16382) (hc : CntIs us.length m P) (ha : a < P) :
    Calls Try.prog 13 #[gV (.slice da us.length cap) m a P] w fun e w' => ∃ va vc, e = .returned (.tuple #[pV (readA (pk P a)) (pt us.length P a) (.slice va (pd us m P a).length vc) (readB (pk P a)), .bool true]) ∧ IsI w' (.slice va (pd us m P a).length vc) (pd us m P a) ∧ (va = none → vc = 0) ∧ Below w.heap.size w w' := by
  have hcl := cnt_le hm hc
  by_cases h1 : P = 1
  · obtain rfl : a = 0 := by omega
    subst h1
    refine (put_whole da cap us m w hv (by omega)).mono ?_
    rintro e w' ⟨v, rfl, hi, ⟨g, n, c, rfl⟩, hb⟩
    obtain ⟨x, y, e1, _⟩ := isI_form hi
    simp only [Value.slice.injEq] at e1
    obtain ⟨rfl, rfl, rfl⟩ := e1
    exact ⟨some g, c, by rfl, hi, fun h => by simp at h, hb⟩
  by_cases h2 : a = 0
  · subst h2
    refine (put_first da cap us m 0 P w hv (by omega) (by omega)).mono ?_
    rintro e w' ⟨rfl, hb⟩
    refine ⟨none, 0, ?_, ?_, fun _ => rfl, hb⟩
    · unfold pk pt pd
      rw [if_neg h1, if_neg h1, if_neg h1]
      rfl
    · unfold pd
      rw [if_neg h1]
      exact Or.inl ⟨_, _, rfl, rfl⟩
  by_cases h3 : a + 1 = P
  · refine (put_last da cap us m a P w hv (by omega) (by omega) (by omega) h3).mono ?_
    rintro e w' ⟨rfl, hb⟩
    refine ⟨none, 0, ?_, ?_, fun _ => rfl, hb⟩
    · unfold pk pt pd
      rw [if_neg h1, if_neg h1, if_neg h1, if_neg h2, if_neg h2, if_neg h2, if_pos h3, if_pos h3]
      rfl
    · unfold pd
      rw [if_neg h1, if_neg h2, if_pos h3]
      exact Or.inl ⟨_, _, rfl, rfl⟩
  · have hlt := cnt_mid hm hc (by omega) (by omega : a + 1 < P)
    refine (put_mid da cap us m a P w hv (by omega) hm (by omega) (by omega) (by omega) (by omega) _ _ rfl (Nat.le_of_lt hlt) rfl).mono ?_
    rintro e w' ⟨v, rfl, hi, hb⟩
    have hne : 0 < ((us.drop ((a - 1) * m)).take m).length := by rw [List.length_take, List.length_drop]; omega
    obtain ⟨x, c, rfl, hf⟩ := isI_form hi
    obtain ⟨b, off, rfl, _⟩ := hf hne
    have e1 : pd us m P a = (us.drop ((a - 1) * m)).take m := by unfold pd; rw [if_neg h1, if_neg h2, if_neg h3]
    have e2 : pk P a = 2 := by unfold pk; rw [if_neg h1, if_neg h2, if_neg h3]
    have e3 : pt us.length P a = 0 := by unfold pt; rw [if_neg h1, if_neg h2]
    rw [e1, e2, e3]
    exact ⟨_, c, rfl, hi, fun h => by simp at h, hb⟩

def rowP (k P : Nat) (dvs : Nat → Value) (a : Nat) : List Value := [.bool (readA (pk P a)), i6 (pt k P a), dvs a, .bool (readB (pk P a))]
def rowsP (k P : Nat) (dvs : Nat → Value) (n : Nat) : List Value := (List.range n).flatMap (rowP k P dvs)
theorem rowsP_snoc (k P : Nat) (dvs : Nat → Value) (n : Nat) : rowsP k P dvs (n + 1) = rowsP k P dvs n ++ rowP k P dvs n := by
  simp [rowsP, List.range_succ]
theorem rowsP_len (k P : Nat) (dvs : Nat → Value) : ∀ n, (rowsP k P dvs n).length = n * 4
  | 0 => rfl
  | n + 1 => by rw [rowsP_snoc, List.length_append, rowsP_len k P dvs n, Nat.succ_mul]; rfl
theorem rowsP_at (k P : Nat) (dvs : Nat → Value) (a j : Nat) (hj : j < 4) : ∀ n, a < n → (rowsP k P dvs n)[a * 4 + j]? = (rowP k P dvs a)[j]?
  | 0, h => by omega
  | n + 1, h => by
    rw [rowsP_snoc]
    by_cases ha : a < n
    · rw [List.getElem?_append_left (by rw [rowsP_len]; omega)]
      exact rowsP_at k P dvs a j hj n ha
    · obtain rfl : a = n := by omega
      rw [List.getElem?_append_right (by rw [rowsP_len]; omega), rowsP_len, Nat.add_sub_cancel_left]
theorem rowsP_same (k P : Nat) (dvs dvs' : Nat → Value) : ∀ n, (∀ a, a < n → dvs a = dvs' a) → rowsP k P dvs n = rowsP k P dvs' n
  | 0, _ => rfl
  | n + 1, h => by
    rw [rowsP_snoc, rowsP_snoc, rowsP_same k P dvs dvs' n (fun a ha => h a (by omega))]
    unfold rowP
    rw [h n (by omega)]
/-- The list of all pieces, in a block not below B; their numbers as they lay in an older world. -/
def IsPs (W0 : World) (B : Nat) (W : World) (v : Value) (k : Nat) (us : List Int) (m P : Nat) : Prop :=
  ∃ g cap dvs, v = .slice (some ⟨g, 0, none⟩) P cap ∧ B ≤ g ∧ g < W.heap.size ∧ (∀ a, a < P → ∀ j u, (rowP k P dvs a)[j]? = some u → W.cell? ⟨g, a * 4 + j, none⟩ = some u) ∧ ∀ a, a < P → IsI W0 (dvs a) (pd us m P a)
theorem IsPs.below {W0 W W' : World} {B : Nat} {v : Value} {k : Nat} {us : List Int} {m P : Nat} (h : IsPs W0 B W v k us m P) (hb : Below W.heap.size W W') : IsPs W0 B W' v k us m P := by
  obtain ⟨g, cap, dvs, e, h0, h1, h2, h3⟩ := h
  exact ⟨g, cap, dvs, e, h0, Nat.lt_of_lt_of_le h1 hb.size, fun a ha j u hj => cell_below hb (h2 a ha j u hj), h3⟩
theorem IsPs.set {W0 W : World} {B : Nat} {v : Value} {k : Nat} {us : List Int} {m P : Nat} (h : IsPs W0 B W v k us m P) {r : Nat} (hr : r < B) (o : Nat) (z : Value) : IsPs W0 B (W.setCell ⟨r, o, none⟩ z) v k us m P := by
  obtain ⟨g, cap, dvs, e, h0, h1, h2, h3⟩ := h
  exact ⟨g, cap, dvs, e, h0, by simpa [World.setCell] using h1, fun a ha j u hj => set_far (h2 a ha j u hj) (by intro e; injection e with e1; omega), h3⟩
abbrev OwnP (w : World) (B : Nat) (v : Value) (n : Nat) (xs : List Value) : Prop := w.ownsRow B 37 4 v n xs
theorem ownP_is {W W0 : World} {B k P m : Nat} {v : Value} {us : List Int} {dvs : Nat → Value} (h : OwnP W B v P (rowsP k P dvs P)) (hP : 1 ≤ P) (hd : ∀ a, a < P → IsI W0 (dvs a) (pd us m P a)) : IsPs W0 B W v k us m P := by
  obtain ⟨g, cap, rfl⟩ := Joins.ownsRow_form h hP
  refine ⟨g, cap, dvs, rfl, (h.lt g rfl).1, (h.lt g rfl).2, fun a ha j u hj => ?_, hd⟩
  have hj4 : j < 4 := (List.getElem?_eq_some_iff.1 hj).1
  exact (h.cellAt (a * 4 + j) (by omega)).trans ((rowsP_at k P dvs a j hj4 P ha).trans hj)
theorem info_piece : (Try.prog.info? 37).map (fun i => (i.zero, i.size, i.bytes)) = some (some (.agg #[.bool false, i6 0, .slice none 0 0, .bool false]), 4, 48) := by kernel_rfl
theorem und_pieces : Try.prog.underlying 29 = some (.slice 37) := by kernel_rfl
theorem row_first (k P : Nat) (dvs : Nat → Value) (h1 : 1 < P) (h : dvs 0 = .slice none 0 0) : rowsP k P dvs 1 = [.bool true, i6 k, .slice none 0 0, .bool false] := by
  have e : rowsP k P dvs 1 = rowP k P dvs 0 := by rw [rowsP_snoc]; rfl
  rw [e]
  unfold rowP pk pt
  rw [if_neg (by omega), if_pos rfl, if_neg (by omega), if_pos rfl, h]; rfl
theorem row_mid (k P a : Nat) (dvs : Nat → Value) (h0 : 0 < a) (h1 : a + 1 < P) : rowP k P dvs a = [.bool true, i6 0, dvs a, .bool false] := by
  unfold rowP pk pt
  rw [if_neg (by omega), if_neg (by omega), if_neg (by omega), if_neg (by omega), if_neg (by omega)]; rfl
theorem row_last (k P a : Nat) (dvs : Nat → Value) (h0 : 0 < a) (h1 : a + 1 = P) (h : dvs a = .slice none 0 0) : rowP k P dvs a = [.bool true, i6 0, .slice none 0 0, .bool true] := by
  unfold rowP pk pt
  rw [if_neg (by omega), if_neg (by omega), if_pos h1, if_neg (by omega), if_neg (by omega), h]; rfl
theorem row_one (k : Nat) (dvs : Nat → Value) : rowsP k 1 dvs 1 = [.bool false, i6 k, dvs 0, .bool true] := by
  have e : rowsP k 1 dvs 1 = rowP k 1 dvs 0 := by rw [rowsP_snoc]; rfl
  rw [e]; rfl
set_option maxRecDepth 100000 in
theorem rall_size (v : Value) (most : Int) (w : World) (h : most < 1 ∨ 16382 < most) :
    Calls Try.prog 12 #[v, i6 most] w fun e w' => e = .returned (.tuple #[.slice none 0 0, i6 17]) ∧ Below w.heap.size w w' := by
  by_cases h1 : most < 1
  · clear h
    go_enter Try.func12, Try.ntmps12
    go_wp2_with fail
    go_returns
    exact ⟨by first | rfl | (simp; done), by (repeat' (first | with_reducible exact Below.refl _ _ | with_reducible assumption | with_reducible refine q_alloc ?_ _ | with_reducible refine q_drew ?_ | with_reducible refine q_drewN _ ?_ | with_reducible refine q_setCell ?_ ?_ _ | (left; simp; done) | (right; simp; done) | (right; dsimp only; omega) | (left; dsimp only; omega)))⟩
  · have h2 : 16382 < most := by omega
    clear h
    go_enter Try.func12, Try.ntmps12
    go_wp2_with fail
    go_returns
    exact ⟨by first | rfl | (simp; done), by (repeat' (first | with_reducible exact Below.refl _ _ | with_reducible assumption | with_reducible refine q_alloc ?_ _ | with_reducible refine q_drew ?_ | with_reducible refine q_drewN _ ?_ | with_reducible refine q_setCell ?_ ?_ _ | (left; simp; done) | (right; simp; done) | (right; dsimp only; omega) | (left; dsimp only; omega)))⟩
set_option maxRecDepth 100000 in
theorem rall_bad (da : Option Addr) (k dc : Nat) (us : List Int) (most : Int) (w : World) (hk : us.length = k) (hv : IsI w (.slice da k dc) us) (h1 : 1 ≤ most) (h2 : most ≤ 16382) (hl : k ≤ 400) (hb : numsB us = false) :
    Calls Try.prog 12 #[.slice da k dc, i6 most] w fun e w' => e = .returned (.tuple #[.slice none 0 0, i6 1]) ∧ Below w.heap.size w w' := by
  have HV := Lib.hid hv
  have HB := Lib.hid hb
  have HK := Lib.hid hk
  clear hv hb hk
  have g1 : ¬ most < 1 := by omega
  have g2 : ¬ 16382 < most := by omega
  have g3 : ¬ (65536 : Int) < (k : Int) := by omega
  go_enter Try.func12, Try.ntmps12
  go_wp2_with fail
  refine (rright_any _ us _ HV.out (by rw [HK.out]; omega)).mono ?_
  rintro e w2 ⟨rfl, rfl⟩
  rw [HB.out]
  go_wp2_with fail
  go_returns
  exact ⟨by first | rfl | (simp; done), by (repeat' (first | with_reducible exact Below.refl _ _ | with_reducible assumption | with_reducible refine q_alloc ?_ _ | with_reducible refine q_drew ?_ | with_reducible refine q_drewN _ ?_ | with_reducible refine q_setCell ?_ ?_ _ | (left; simp; done) | (right; simp; done) | (right; dsimp only; omega) | (left; dsimp only; omega)))⟩
set_option maxRecDepth 100000 in
theorem rall_one (da : Option Addr) (k dc : Nat) (us : List Int) (m P : Nat) (w0 : World) (hv0 : IsI w0 (.slice da k dc) us) (w : World) (hk : us.length = k) (hv : IsI w (.slice da k dc) us) (h1 : 1 ≤ m) (h2 : m ≤ 16382) (hl : k ≤ 400) (hok : numsB us = true) (hc : CntIs k m P) (hP : P = 1) :
    Calls Try.prog 12 #[.slice da k dc, i6 m] w fun e w' => ∃ v, e = .returned (.tuple #[v, i6 0]) ∧ IsPs w0 w.heap.size w' v k us m P ∧ Below w.heap.size w w' := by
  have hkm : k ≤ m := (cnt_le h1 hc).2.2.1 hP
  subst hP
  have hkm' : (k : Int) ≤ (m : Int) := by omega
  have HV := Lib.hid hv
  have HV0 := Lib.hid hv0
  clear hv0
  have HOK := Lib.hid hok
  have HK := Lib.hid hk
  have HC := Lib.hid hc
  clear hv hok hk hc
  obtain ⟨i0, hi, hz0, hz1, hz2⟩ := info_parts info_piece
  have g1 : ¬ (m : Int) < 1 := by omega
  have g2 : ¬ (16382 : Int) < (m : Int) := by omega
  have g3 : ¬ (65536 : Int) < (k : Int) := by omega
  go_enter Try.func12, Try.ntmps12
  go_wp2_with fail
  refine (rright_any _ us _ HV.out (by rw [HK.out]; omega)).mono ?_
  rintro e w2 ⟨rfl, rfl⟩
  rw [HOK.out]
  have hq : Below w.heap.size w (w.alloc (.cells #[.bool false, i6 k, .slice da k dc, .bool true] 37)) := by (repeat' (first | with_reducible exact Below.refl _ _ | with_reducible assumption | with_reducible refine q_alloc ?_ _ | with_reducible refine q_drew ?_ | with_reducible refine q_drewN _ ?_ | with_reducible refine q_setCell ?_ ?_ _ | (left; simp; done) | (right; simp; done) | (right; dsimp only; omega) | (left; dsimp only; omega)))
  have hown : OwnP (w.alloc (.cells #[.bool false, i6 k, .slice da k dc, .bool true] 37)) w.heap.size (.slice (some ⟨w.heap.size, 0, none⟩) 1 1) 1 (rowsP k 1 (fun _ => .slice da k dc) 1) := by
    rw [row_one]
    exact World.ownsRow_lit w #[.bool false, i6 k, .slice da k dc, .bool true] 1 (Nat.le_refl _) (by decide) rfl
  have hps : IsPs w0 w.heap.size (w.alloc (.cells #[.bool false, i6 k, .slice da k dc, .bool true] 37)) (.slice (some ⟨w.heap.size, 0, none⟩) 1 1) k us m 1 := ownP_is hown (Nat.le_refl _) (fun a ha => by
    obtain rfl : a = 0 := by omega
    exact HV0.out)
  have HPS := Lib.hid hps
  have HQ := Lib.hid hq
  clear hps hown hq
  go_wp2_with fail
  go_returns
  exact ⟨_, by first | rfl | (simp; done), HPS.out, HQ.out⟩
set_option maxRecDepth 100000 in
set_option maxHeartbeats 8000000 in
theorem rall_more (da : Option Addr) (k dc : Nat) (us : List Int) (m P : Nat) (w0 : World) (hv0 : IsI w0 (.slice da k dc) us) (w : World) (hk : us.length = k) (hv : IsI w (.slice da k dc) us) (h1 : 1 ≤ m) (h2 : m ≤ 16382) (hl : k ≤ 400) (hok : numsB us = true) (hc : CntIs k m P) (hP : 1 < P) :
    Calls Try.prog 12 #[.slice da k dc, i6 m] w fun e w' => ∃ v, e = .returned (.tuple #[v, i6 0]) ∧ IsPs w0 w.heap.size w' v k us m P ∧ Below w.heap.size w w' := by
  have hcl := cnt_le h1 hc
  have hkm : ¬ (k : Int) ≤ (m : Int) := by have := hcl.2.2; omega
  have hlast := cnt_last h1 hc hP
  have hmid : ∀ c, c + 2 < P → c * m < k := fun c hcp => by have := cnt_mid h1 hc (by omega : 0 < c + 1) (by omega); simpa using this
  have HMID := Lib.hid hmid
  have HLAST := Lib.hid hlast
  clear hmid hlast hcl
  have HV := Lib.hid hv
  have HV0 := Lib.hid hv0
  clear hv0
  have HOK := Lib.hid hok
  have HK := Lib.hid hk
  have HC := Lib.hid hc
  clear hv hok hk hc
  obtain ⟨i0, hi, hz0, hz1, hz2⟩ := info_parts info_piece
  have g1 : ¬ (m : Int) < 1 := by omega
  have g2 : ¬ (16382 : Int) < (m : Int) := by omega
  have g3 : ¬ (65536 : Int) < (k : Int) := by omega
  go_enter Try.func12, Try.ntmps12
  go_wp2_with fail
  refine (rright_any _ us _ HV.out (by rw [HK.out]; omega)).mono ?_
  rintro e w2 ⟨rfl, rfl⟩
  rw [HOK.out]
  have hown0 : OwnP (w.alloc (.cells #[.bool true, i6 k, .slice none 0 0, .bool false] 37)) w.heap.size (.slice (some ⟨w.heap.size, 0, none⟩) 1 1) 1 (rowsP k P (fun _ => .slice none 0 0) 1) := by
    rw [row_first k P (fun _ => .slice none 0 0) hP rfl]
    exact World.ownsRow_lit w #[.bool true, i6 k, .slice none 0 0, .bool false] 1 (Nat.le_refl _) (by decide) rfl
  have HO0 := Lib.hid hown0
  have HQ0 := Lib.hid (show Below w.heap.size w (w.alloc (.cells #[.bool true, i6 k, .slice none 0 0, .bool false] 37)) by (repeat' (first | with_reducible exact Below.refl _ _ | with_reducible assumption | with_reducible refine q_alloc ?_ _ | with_reducible refine q_drew ?_ | with_reducible refine q_drewN _ ?_ | with_reducible refine q_setCell ?_ ?_ _ | (left; simp; done) | (right; simp; done) | (right; dsimp only; omega) | (left; dsimp only; omega))))
  clear hown0
  go_wp2_with fail
  refine code_world (fun W => OwnP W w.heap.size (.slice (some ⟨w.heap.size, 0, none⟩) 1 1) 1 (rowsP k P (fun _ => .slice none 0 0) 1) ∧ Below w.heap.size w W) ⟨HO0.out, HQ0.out⟩ ?_
  intro W1 ⟨ho1, hq1⟩
  clear HO0 HQ0
  go_loopw [6, 7] (fun v i wr => ∃ (c : Nat) (dvs : Nat → Value), c + 2 ≤ P ∧ i = .int .i64 ((c * m : Nat) : Int) ∧ OwnP wr w.heap.size v (c + 1) (rowsP k P dvs (c + 1)) ∧ Hid (∀ a, a ≤ c → IsI w0 (dvs a) (pd us m P a)) ∧ Below w.heap.size w wr)
    (fun _ i _ => k - (intOf i).toNat)
  case atStart => exact ⟨0, _, by omega, by simp, ho1, Lib.hid (fun a ha => by
    obtain rfl : a = 0 := by omega
    unfold pd; rw [if_neg (by omega), if_pos rfl]; exact Or.inl ⟨_, _, rfl, rfl⟩), hq1⟩
  case round =>
    clear ho1 hq1
    obtain ⟨c, dvs, hcp, rfl, hown, hds, hq⟩ := hrel
    by_cases hlt : c + 2 < P
    · have hck := HMID.out c hlt
      obtain ⟨F, hF⟩ : ∃ F, c * m = F := ⟨_, rfl⟩
      have HF := Lib.hid hF
      rw [hF] at hck ⊢
      clear hF
      have hki : (F : Int) < (k : Int) := by omega
      have hFk : F ≤ k := by omega
      obtain ⟨E, hE⟩ : ∃ E, min (F + m) k = E := ⟨_, rfl⟩
      have g7 : IntKind.i64.wrap ((F : Int) + (m : Int)) = (F : Int) + (m : Int) := IntWalk.i64_in _ (by omega)
      have g8 : (if (k : Int) < (F : Int) + (m : Int) then (k : Int) else (F : Int) + (m : Int)) = (E : Int) := by
        rw [← hE]; split <;> omega
      obtain ⟨sv, hsl, hsv⟩ := slice_mid da k dc F E us w0 HV0.out HK.out (by omega) (by omega)
      have htk : (us.drop F).take (E - F) = (us.drop F).take m := by
        have := HK.out
        by_cases h : F + m ≤ k
        · rw [show E - F = m by omega]
        · rw [List.take_of_length_le (by rw [List.length_drop]; omega), List.take_of_length_le (by rw [List.length_drop]; omega)]
      rw [htk] at hsv
      obtain ⟨sa, sc, rfl, _⟩ := isI_form hsv
      have HSV := Lib.hid hsv
      generalize ((us.drop F).take m).length = sn at hsl HSV hsv ⊢
      have HE := Lib.hid hE
      clear hE htk hsv
      go_wp2_with (first
        | (at_builtin; refine wpList_append_own _ rfl _ _ 29 rfl w.heap.size 37 i0 (.agg #[.bool false, i6 0, .slice none 0 0, .bool false]) 4 48 und_pieces hi hz0 hz1 hz2 rfl (by decide) _ _ _ rfl (hown.alloc _) ⟨wr.heap.size, 0, none⟩ 1 1 [.bool true, i6 0, .slice sa sn sc, .bool false] rfl rfl ?c1 ?c2 ?c3 ?c4 ?c5 ?_))
      case c1 =>
        intro j z hj
        match j, hj with
        | 0, hj => simp at hj; subst hj; exact cell_new rfl
        | 1, hj => simp at hj; subst hj; exact cell_new rfl
        | 2, hj => simp at hj; subst hj; exact cell_new rfl
        | 3, hj => simp at hj; subst hj; exact cell_new rfl
      case c2 => intro z hz; simp at hz; rcases hz with rfl | rfl | rfl | rfl <;> rfl
      case c3 => unfold maxLen; have := HC.out; have := (cnt_le h1 HC.out).2.1; omega
      case c4 => have := (cnt_le h1 HC.out).2.1; omega
      case c5 => have := hq.size; simp; omega
      intro v' w5 hown' hgrow _
      have hb1 : Below w.heap.size w w5 := (hq.alloc hq.size _).grown hgrow (by have := hq.size; simp; omega) (fun j hj => (hown.lt j hj).1)
      have hown2 : OwnP w5 w.heap.size v' (c + 1 + 1) (rowsP k P (fun a => if a = c + 1 then .slice sa sn sc else dvs a) (c + 1 + 1)) := by
        rw [rowsP_snoc, row_mid _ _ _ _ (by omega) (by omega), rowsP_same k P _ dvs (c + 1) (fun a ha => by rw [if_neg (by omega)])]
        simp only [if_true]
        exact hown'
      have hds2 : Hid (∀ a, a ≤ c + 1 → IsI w0 ((fun a => if a = c + 1 then Value.slice sa sn sc else dvs a) a) (pd us m P a)) := Lib.hid (fun a ha => by
        by_cases hac : a = c + 1
        · subst hac
          simp only [if_true]
          unfold pd
          rw [if_neg (by omega), if_neg (by omega), if_neg (by omega), Nat.add_sub_cancel, HF.out]
          exact HSV.out
        · simp only [if_neg hac]
          exact hds.out a (by omega))
      clear hown' hgrow hown hq hds g8
      go_wp2_with fail
      go_roundw
      case rel => exact ⟨c + 1, by omega, by rw [← Int.natCast_mul, Nat.add_mul, Nat.one_mul, HF.out]; omega, _, hown2, hds2⟩
      case measure => simp [intOf] <;> omega
    · obtain rfl : P = c + 2 := by omega
      have hge : ¬ ((c * m : Nat) : Int) < (k : Int) := by have := HLAST.out; rw [show c + 2 - 2 = c by omega] at this; omega
      generalize c * m = F at hge ⊢
      go_wp2_with (first
        | (at_builtin; refine wpList_append_own _ rfl _ _ 29 rfl w.heap.size 37 i0 (.agg #[.bool false, i6 0, .slice none 0 0, .bool false]) 4 48 und_pieces hi hz0 hz1 hz2 rfl (by decide) _ _ _ rfl (hown.alloc _) ⟨wr.heap.size, 0, none⟩ 1 1 [.bool true, i6 0, .slice none 0 0, .bool true] rfl rfl ?c1 ?c2 ?c3 ?c4 ?c5 ?_))
      case c2 => first | exact ⟨rfl, rfl, rfl, rfl⟩ | (intro z hz; simp at hz; rcases hz with rfl | rfl | rfl | rfl <;> rfl)
      case c3 => unfold maxLen; have := (cnt_le h1 HC.out).2.1; omega
      case c4 => have := (cnt_le h1 HC.out).2.1; omega
      case c5 => have := hq.size; simp; omega
      intro v' w5 hown' hgrow _
      have hb1 : Below w.heap.size w w5 := (hq.alloc hq.size _).grown hgrow (by have := hq.size; simp; omega) (fun j hj => (hown.lt j hj).1)
      have hown2 : OwnP w5 w.heap.size v' (c + 2) (rowsP k (c + 2) (fun a => if a = c + 1 then .slice none 0 0 else dvs a) (c + 2)) := by
        rw [rowsP_snoc, row_last _ _ _ _ (by omega) (by omega) (by simp), rowsP_same k (c + 2) _ dvs (c + 1) (fun a ha => by rw [if_neg (by omega)])]
        exact hown'
      have hps : IsPs w0 w.heap.size w5 v' k us m (c + 2) := ownP_is hown2 (by omega) (fun a ha => by
        by_cases hac : a = c + 1
        · subst hac
          simp only [if_true]
          unfold pd
          rw [if_neg (by omega), if_neg (by omega), if_pos (by omega)]
          exact Or.inl ⟨_, _, rfl, rfl⟩
        · simp only [if_neg hac]
          exact hds.out a (by omega))
      have HPS := Lib.hid hps
      clear hown' hgrow hown hq hds hown2 hps
      go_wp2_with fail
      go_returns
      exact ⟨_, by first | rfl | (simp; done), HPS.out, hb1⟩
end Go.Proofs.Ytlaejolgjchfcaa
