/- Layer 3: the document's form of fields. -/
import Derived.Test.YtbffnobchjiaeaaDoorCd8
namespace Go.Proofs.YtbffnobchjiaeaaDoor
open Go Go.RowKit
set_option linter.unusedSimpArgs false
set_option linter.unusedVariables false
structure RFormSt (w0 : World) (lv : Value) (ps : List B8) (r : F3) (fv : Value) (wr : World) : Prop where
  below : Below w0.heap.size w0 wr
  b0 : Blk wr w0.heap.size [.slice none 0 0, .bool false, i6 0]
  b1 : Blk wr (w0.heap.size + 1) [fv, .bool r.2.1, i6 r.2.2]
  ownS : OwnS wr (w0.heap.size + 2) lv ps
  ownI : OwnI wr (w0.heap.size + 2) fv r.1
theorem RFormSt.bytes {w0 wr : World} {lv : Value} {ps : List B8} {r : F3} {fv : Value} (h : RFormSt w0 lv ps r fv wr) : RFormSt w0 lv ps (r.1, true, r.2.2) fv (wr.setCell ⟨w0.heap.size + 1, 1, none⟩ (.bool true)) := by
  have hg := grown_set wr (w0.heap.size + 1) 1 (.bool true)
  exact ⟨h.below.grown hg h.below.size (fun k hk => by cases hk; omega), h.b0.grown hg (by simp), h.b1.set 1 _ (by simp) rfl, own_set h.ownS (by omega), own_set h.ownI (by omega)⟩
theorem RFormSt.list {w0 wr : World} {lv : Value} {ps : List B8} {r : F3} {fv : Value} (h : RFormSt w0 lv ps r fv wr) (n : Int) : RFormSt w0 lv ps (r.1, r.2.1, n) fv (wr.setCell ⟨w0.heap.size + 1, 2, none⟩ (i6 n)) := by
  have hg := grown_set wr (w0.heap.size + 1) 2 (i6 n)
  exact ⟨h.below.grown hg h.below.size (fun k hk => by cases hk; omega), h.b0.grown hg (by simp), h.b1.set 2 _ (by simp) rfl, own_set h.ownS (by omega), own_set h.ownI (by omega)⟩
theorem RFormSt.alloc {w0 wr : World} {lv : Value} {ps : List B8} {r : F3} {fv : Value} (h : RFormSt w0 lv ps r fv wr) (o : Obj) : RFormSt w0 lv ps r fv (wr.alloc o) :=
  ⟨h.below.alloc h.below.size o, h.b0.alloc o, h.b1.alloc o, h.ownS.alloc o, h.ownI.alloc o⟩
theorem RFormSt.fixed {w0 wr w1 : World} {lv : Value} {ps : List B8} {r : F3} {fv fv' : Value} (h : RFormSt w0 lv ps r fv wr) (n : Int) (hg : wr.grownBy w1 fv.ownBlock) (ho : OwnI w1 (w0.heap.size + 2) fv' (r.1 ++ [n])) :
    RFormSt w0 lv ps (r.1 ++ [n], r.2.1, r.2.2) fv' (w1.setCell ⟨w0.heap.size + 1, 0, none⟩ fv') := by
  have hs := grown_set w1 (w0.heap.size + 1) 0 fv'
  have hr : ∀ k, fv.ownBlock = some k → w0.heap.size + 2 ≤ k := fun k hk => (h.ownI.lt k hk).1
  have hb1 : Below w0.heap.size w0 w1 := h.below.grown hg h.below.size (fun k hk => by have := hr k hk; omega)
  have k0 := h.b0.grown hg (fun e => by have := hr _ e.symm; omega)
  have k1 := h.b1.grown hg (fun e => by have := hr _ e.symm; omega)
  have ks := h.ownS.kept hg (own_ne h.ownS h.ownI (by decide))
  exact ⟨hb1.grown hs hb1.size (fun k hk => by cases hk; omega), k0.grown hs (by simp), k1.set 0 _ (by simp) rfl, own_set ks (by omega), own_set ho (by omega)⟩
structure OkR (s : B8) : Prop where
  word : ∀ (k : Nat) (x : B8), (partsF s 32)[k]? = some x → wordR x = true ∧ x.length ≤ 100
  many : (partsF s 32).length ≤ 100
  len : s.length < 1000
theorem okR_of {s : B8} (h : okR s = true) : OkR s := by
  unfold okR at h
  simp only [Bool.and_eq_true, decide_eq_true_eq, List.all_eq_true] at h
  exact ⟨fun k x hx => h.1.1 x (List.mem_of_getElem? hx), h.1.2, h.2⟩
theorem wordR_of {x : B8} (h : wordR x = true) (h0 : x ≠ []) (hne : x ≠ [66]) : 2 ≤ x.length := by
  unfold wordR at h
  simp only [Bool.or_eq_true, beq_iff_eq, decide_eq_true_eq] at h
  exact h.resolve_left (fun e => e.elim h0 hne)
theorem partsGo_pos : ∀ (a : UInt8) (cur s : B8), 0 < (partsGo a cur s).length
  | a, cur, [] => by simp [partsGo]
  | a, cur, b :: l => by
    unfold partsGo
    split
    · simp
    · exact partsGo_pos a _ l
def rF (ps : List B8) : F3 := ps.foldl stepR ([], false, 0)
theorem rF_take {ps : List B8} {k : Nat} {x : B8} (h : ps[k]? = some x) : rF (ps.take (k + 1)) = stepR (rF (ps.take k)) x := by
  unfold rF
  rw [List.take_add_one, h]; simp
theorem stepR_len (r : F3) (x : B8) : (stepR r x).1.length ≤ r.1.length + 1 := by
  unfold stepR
  repeat' split
  all_goals simp
theorem rF_len : ∀ (ws : List B8) (r : F3), (ws.foldl stepR r).1.length ≤ r.1.length + ws.length
  | [], r => by simp
  | x :: ws, r => by
    have h := rF_len ws (stepR r x)
    have h1 := stepR_len r x
    simp only [List.foldl_cons, List.length_cons]
    omega
theorem rF_take_len (ws : List B8) (k : Nat) : (rF (ws.take k)).1.length ≤ k := by
  have h := rF_len (ws.take k) ([], false, 0)
  have h1 : (ws.take k).length ≤ k := List.length_take_le _ _
  simp only [List.length_nil] at h
  unfold rF; omega
theorem stepR_0 (r : F3) : stepR r [] = r := rfl
theorem stepR_b (r : F3) : stepR r [66] = (r.1, true, r.2.2) := rfl
theorem stepR_l {r : F3} {x : B8} (h0 : (x == []) = false) (h : (x == [66]) = false) (h2 : (x.getD 0 0 == 76) = true) : stepR r x = (r.1, r.2.1, sizeR x) := by
  unfold stepR; rw [h0, h, h2]; rfl
theorem stepR_f {r : F3} {x : B8} (h0 : (x == []) = false) (h : (x == [66]) = false) (h2 : (x.getD 0 0 == 76) = false) : stepR r x = (r.1 ++ [sizeR x], r.2.1, r.2.2) := by
  unfold stepR; rw [h0, h, h2]; rfl
theorem u8_76 (c : UInt8) : (((c.toNat : Nat) : Int) == 76) = (c == 76) := by
  rw [Bool.eq_iff_iff]; simp [← UInt8.toNat_inj]; omega
set_option maxRecDepth 100000 in
set_option maxHeartbeats 8000000 in
theorem rform_any (s : B8) (w : World) (hs : okR s = true) :
    Calls Tryd.prog 30 #[strV s] w fun e w' => ∃ fv, e = .returned (.agg #[fv, .bool (formR s).2.1, i6 (formR s).2.2]) ∧ OwnI w' w.heap.size fv (formR s).1 ∧ Below w.heap.size w w' := by
  obtain ⟨i0, hi, hz0, hz1, hz2⟩ := info_parts info_int
  have HO := Lib.hid (okR_of hs)
  clear hs
  go_enter Tryd.func30, Tryd.ntmps30
  go_wp2_with fail
  refine (parts_any s 32 _ (by have := HO.out.len; omega)).mono ?_
  rintro e w1 ⟨lv, rfl, hls, hb⟩
  have hpos : 0 < (partsF s 32).length := partsGo_pos _ _ _
  obtain ⟨g, cap, rfl⟩ := Joins.ownsRow_form hls hpos
  have hf : formR s = rF (partsF s 32) := rfl
  have HW : Hid (∀ (k : Nat) (x : B8), (partsF s 32)[k]? = some x → wordR x = true ∧ x.length ≤ 100) := Lib.hid HO.out.word
  have hmany := HO.out.many
  have HF := Lib.hid hf
  clear hf HO
  generalize hps : partsF s 32 = ps at hls hpos HW hmany HF ⊢
  clear hps
  have hst0 : RFormSt w (.slice (some ⟨g, 0, none⟩) ps.length cap) ps (rF (ps.take 0)) (.slice none 0 0) w1 := by
    have k0 : Blk ((w.alloc (Obj.cells #[Value.slice none 0 0, Value.bool false, i6 0] 27)).alloc (Obj.cells #[Value.slice none 0 0, Value.bool false, i6 0] 27)) w.heap.size [.slice none 0 0, .bool false, i6 0] := (Blk.new rfl).alloc _
    have k1 : Blk ((w.alloc (Obj.cells #[Value.slice none 0 0, Value.bool false, i6 0] 27)).alloc (Obj.cells #[Value.slice none 0 0, Value.bool false, i6 0] 27)) (w.heap.size + 1) [.slice none 0 0, .bool false, i6 0] := blk_new1 rfl
    refine ⟨q_step (by (repeat' (first | with_reducible exact Below.refl _ _ | with_reducible assumption | with_reducible refine q_alloc ?_ _ | with_reducible refine q_drew ?_ | with_reducible refine q_drewN _ ?_ | with_reducible refine q_setCell ?_ ?_ _ | (left; simp; done) | (right; simp; done) | (right; dsimp only; omega) | (left; dsimp only; omega)))) hb, k0.below hb, k1.below hb, ?_, World.ownsRow_nil _ _ _ _⟩
    have hz : ((w.alloc (Obj.cells #[Value.slice none 0 0, Value.bool false, i6 0] 27)).alloc (Obj.cells #[Value.slice none 0 0, Value.bool false, i6 0] 27)).heap.size = w.heap.size + 2 := by simp
    rw [hz] at hls
    exact hls
  have HST0 := Lib.hid hst0
  clear hst0 hls hb
  go_wp2_with fail
  go_loopw [5] (fun i wr => ∃ (k : Nat) (fv : Value), k ≤ ps.length ∧ i = .int .i64 k ∧ RFormSt w (.slice (some ⟨g, 0, none⟩) ps.length cap) ps (rF (ps.take k)) fv wr)
    (fun i _ => ps.length - (intOf i).toNat)
  case atStart => exact ⟨0, _, by omega, rfl, HST0.out⟩
  case round =>
    obtain ⟨k, fv, hk, rfl, hst⟩ := hrel
    by_cases hlt : k < ps.length
    · obtain ⟨x, hx⟩ : ∃ x, ps[k]? = some x := ⟨_, List.getElem?_eq_getElem hlt⟩
      have hfl := rF_take hx
      have hlA := rF_take_len ps k
      generalize hr : rF (ps.take k) = r at hst hfl hlA
      have hwx : wr.cell? ⟨g, k, none⟩ = some (strV x) := by
        rw [hst.ownS.cellAt k (by omega), List.getElem?_map, hx]; rfl
      obtain ⟨hwb, hxl⟩ := HW.out k x hx
      have d0 := hst.b1.cell 0 rfl
      have d1 := hst.b1.cell 1 rfl
      have d2 := hst.b1.cell 2 rfl
      have f0 := hst.b1.froz 0 rfl
      have f1 := hst.b1.froz 1 rfl
      have f2 := hst.b1.froz 2 rfl
      have hlt' : (k : Int) < (ps.length : Int) := by omega
      have HST := Lib.hid hst
      have HFL := Lib.hid hfl
      have HWB := Lib.hid hwb
      clear hst hfl hr hx hwb
      by_cases h0 : x = []
      · subst h0
        go_wp2_with fail
        go_roundw
        case rel => exact ⟨k + 1, fv, by omega, by go_num, by rw [HFL.out, stepR_0]; exact HST.out⟩
        case measure => simp [intOf] <;> omega
      by_cases h66 : x = [66]
      · subst h66
        go_wp2_with fail
        go_roundw
        case rel => exact ⟨k + 1, fv, by omega, by go_num, by rw [HFL.out, stepR_b]; exact HST.out.bytes⟩
        case measure => simp [intOf] <;> omega
      · have e66 : (x == [66]) = false := by simpa using h66
        have e00 : (x == []) = false := by simpa using h0
        have h2 := wordR_of HWB.out h0 h66
        obtain ⟨m, hm⟩ : ∃ m, x.length = m + 2 := ⟨x.length - 2, by omega⟩
        have hsz : (⟨x.toArray⟩ : ByteArray).size = m + 2 := by show x.toArray.size = _; simpa using hm
        have g1 : (((⟨x.toArray⟩ : ByteArray)[m + 1]'(by rw [hsz]; omega)).toNat : Int) = ((x.getD (m + 1) 0).toNat : Int) := by rw [get_str x (m + 1) (by omega)]
        have g0 : (((⟨x.toArray⟩ : ByteArray)[m]'(by rw [hsz]; omega)).toNat : Int) = ((x.getD m 0).toNat : Int) := by rw [get_str x m (by omega)]
        have gl : (((⟨x.toArray⟩ : ByteArray)[0]'(by rw [hsz]; omega)).toNat : Int) = ((x.getD 0 0).toNat : Int) := by rw [get_str x 0 (by omega)]
        have t0 := u8_45 (x.getD m 0)
        have tl := u8_76 (x.getD 0 0)
        have hdg : digOf x = ((x.getD (m + 1) 0).toNat : Int) - 48 := by unfold digOf; rw [hm]; rfl
        have hng : negB x = (x.getD m 0 == 45) := by unfold negB; rw [hm]; rfl
        have hC := (x.getD (m + 1) 0).toNat_lt
        have hpos2 : 0 < m + 2 := by omega
        generalize hC1 : (x.getD (m + 1) 0).toNat = C1 at g1 hdg hC
        generalize hb0 : (x.getD m 0 == 45) = B0 at t0 hng
        generalize hbl : (x.getD 0 0 == 76) = BL at tl
        generalize (x.getD m 0).toNat = C0 at g0 t0
        generalize (x.getD 0 0).toNat = CL at gl tl
        clear HWB
        have hw1 : IntKind.i64.wrap ((C1 : Int) - 48) = (C1 : Int) - 48 := IntWalk.i64_in _ (by omega)
        cases B0 <;> cases BL
        · have hS : sizeR x = ((C1 : Int) - 48) := by unfold sizeR; rw [hng, hdg]; rfl
          clear hng hdg
          have HS := Lib.hid hS
          clear hS
          have HN := Lib.hid (stepR_f (r := r) e00 e66 hbl)
          clear hbl hb0 hC1
          go_wp2_with (at_builtin; refine wpList_append_own _ rfl _ _ 22 rfl (w.heap.size + 2) 3 i0 (i6 0) 1 8 und_ints hi hz0 hz1 hz2 rfl (by decide) _ _ _ rfl (HST.out.ownI.alloc _) ⟨wr.heap.size, 0, none⟩ 1 1 [i6 ((C1 : Int) - 48)] rfl rfl ?c1 ?c2 ?c3 ?c4 ?c5 ?_)
          case c1 =>
            intro j u hj
            match j, hj with
            | 0, hj => simp at hj; subst hj; exact cell_new (by first | rfl | (simp; done) | (simp; omega))
          case c2 => intro u hu; simp at hu; subst hu; rfl
          case c3 => unfold maxLen; omega
          case c4 => omega
          case c5 => have := HST.out.b1.lt; simp; omega
          intro fv' w2 hown' hgrow _
          obtain ⟨fa', fm', fc', rfl⟩ := own_slice hown'
          have hA := HST.out.alloc (.cells #[i6 ((C1 : Int) - 48)] 3)
          have k1 := hA.b1.grown hgrow (fun e => by have := (hA.ownI.lt _ e.symm).1; omega)
          have hF := hA.fixed ((C1 : Int) - 48) hgrow (own_snocI hown')
          clear d0 d1 d2 f0 f1 f2
          have d0 := k1.cell 0 rfl
          have f0 := k1.froz 0 rfl
          have HF2 := Lib.hid hF
          clear hF k1 hA hown' hgrow
          go_wp2_with fail
          go_roundw
          case rel => exact ⟨k + 1, _, by omega, by go_num, by rw [HFL.out, HN.out, HS.out]; exact HF2.out⟩
          case measure => simp [intOf] <;> omega
        · have hS : sizeR x = ((C1 : Int) - 48) := by unfold sizeR; rw [hng, hdg]; rfl
          clear hng hdg
          have HS := Lib.hid hS
          clear hS
          have HN := Lib.hid (stepR_l (r := r) e00 e66 hbl)
          clear hbl hb0 hC1
          go_wp2_with fail
          go_roundw
          case rel => exact ⟨k + 1, fv, by omega, by go_num, by rw [HFL.out, HN.out, HS.out]; exact HST.out.list _⟩
          case measure => simp [intOf] <;> omega
        · have hS : sizeR x = (-((C1 : Int) - 48)) := by unfold sizeR; rw [hng, hdg]; rfl
          clear hng hdg
          have HS := Lib.hid hS
          clear hS
          have HN := Lib.hid (stepR_f (r := r) e00 e66 hbl)
          clear hbl hb0 hC1
          go_wp2_with (at_builtin; refine wpList_append_own _ rfl _ _ 22 rfl (w.heap.size + 2) 3 i0 (i6 0) 1 8 und_ints hi hz0 hz1 hz2 rfl (by decide) _ _ _ rfl (HST.out.ownI.alloc _) ⟨wr.heap.size, 0, none⟩ 1 1 [i6 (-((C1 : Int) - 48))] rfl rfl ?c1 ?c2 ?c3 ?c4 ?c5 ?_)
          case c1 =>
            intro j u hj
            match j, hj with
            | 0, hj => simp at hj; subst hj; exact cell_new (by first | rfl | (simp; done) | (simp; omega))
          case c2 => intro u hu; simp at hu; subst hu; rfl
          case c3 => unfold maxLen; omega
          case c4 => omega
          case c5 => have := HST.out.b1.lt; simp; omega
          intro fv' w2 hown' hgrow _
          obtain ⟨fa', fm', fc', rfl⟩ := own_slice hown'
          have hA := HST.out.alloc (.cells #[i6 (-((C1 : Int) - 48))] 3)
          have k1 := hA.b1.grown hgrow (fun e => by have := (hA.ownI.lt _ e.symm).1; omega)
          have hF := hA.fixed (-((C1 : Int) - 48)) hgrow (own_snocI hown')
          clear d0 d1 d2 f0 f1 f2
          have d0 := k1.cell 0 rfl
          have f0 := k1.froz 0 rfl
          have HF2 := Lib.hid hF
          clear hF k1 hA hown' hgrow
          go_wp2_with fail
          go_roundw
          case rel => exact ⟨k + 1, _, by omega, by go_num, by rw [HFL.out, HN.out, HS.out]; exact HF2.out⟩
          case measure => simp [intOf] <;> omega
        · have hS : sizeR x = (-((C1 : Int) - 48)) := by unfold sizeR; rw [hng, hdg]; rfl
          clear hng hdg
          have HS := Lib.hid hS
          clear hS
          have HN := Lib.hid (stepR_l (r := r) e00 e66 hbl)
          clear hbl hb0 hC1
          go_wp2_with fail
          go_roundw
          case rel => exact ⟨k + 1, fv, by omega, by go_num, by rw [HFL.out, HN.out, HS.out]; exact HST.out.list _⟩
          case measure => simp [intOf] <;> omega
    · obtain rfl : k = ps.length := by omega
      rw [List.take_length] at hst
      obtain ⟨fa, fm, fc, rfl⟩ := own_slice hst.ownI
      have HFE := Lib.hid HF.out
      generalize hr : rF ps = r at hst HFE
      have d0 := hst.b1.cell 0 rfl
      have d1 := hst.b1.cell 1 rfl
      have d2 := hst.b1.cell 2 rfl
      have c0 := hst.b0.cell 0 rfl
      have c1 := hst.b0.cell 1 rfl
      have c2 := hst.b0.cell 2 rfl
      have f0 := hst.b0.froz 0 rfl
      have f1 := hst.b0.froz 1 rfl
      have f2 := hst.b0.froz 2 rfl
      have hq := hst.below
      have hb0 := hst.b0
      have HST := Lib.hid hst
      clear hst hr
      go_wp2_with fail
      refine body_world (fun W => Below w.heap.size w W ∧ Blk W w.heap.size [.slice fa fm fc, .bool r.2.1, i6 r.2.2] ∧ OwnI W (w.heap.size + 2) (.slice fa fm fc) r.1) ⟨by (repeat' (first | with_reducible exact Below.refl _ _ | with_reducible assumption | with_reducible refine q_alloc ?_ _ | with_reducible refine q_drew ?_ | with_reducible refine q_drewN _ ?_ | with_reducible refine q_setCell ?_ ?_ _ | (left; simp; done) | (right; simp; done) | (right; dsimp only; omega) | (left; dsimp only; omega))), ((hb0.set 0 _ (by simp) rfl).set 1 _ (by simp) rfl).set 2 _ (by simp) rfl, own_set (own_set (own_set HST.out.ownI (by omega)) (by omega)) (by omega)⟩ ?_
      intro W9 ⟨hq9, b9, i9⟩
      clear d0 d1 d2 c0 c1 c2 f0 f1 f2
      have d0 := b9.cell 0 rfl
      have d1 := b9.cell 1 rfl
      have d2 := b9.cell 2 rfl
      exact bodyPost_ret (v := .agg #[.slice fa fm fc, .bool r.2.1, i6 r.2.2]) (by simp [results, Tryd.results30, go_sem, d0, d1, d2]) rfl (by rw [HFE.out]; exact ⟨_, rfl, own_le i9 (by omega), hq9⟩)
end Go.Proofs.YtbffnobchjiaeaaDoor
