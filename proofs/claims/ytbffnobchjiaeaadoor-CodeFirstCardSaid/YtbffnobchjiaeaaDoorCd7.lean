/- Layer 3: the form of fields, walked. -/
import Derived.Test.YtbffnobchjiaeaaDoorCd6
namespace Go.Proofs.YtbffnobchjiaeaaDoor
open Go Go.RowKit
set_option linter.unusedSimpArgs false
set_option linter.unusedVariables false
set_option maxRecDepth 100000 in
set_option maxHeartbeats 4000000 in
theorem form_any (s : B8) (w : World) (hs : okS s = true) (ht : RowAt 0 spaceC w) :
    Calls Tryd.prog 27 #[strV s] w fun e w' => ∃ fv nv, e = .returned (.tuple #[.agg #[fv, .bool (formF s).1.2.1, i6 (formF s).1.2.2], nv]) ∧ OwnI w' w.heap.size fv (formF s).1.1 ∧ OwnS w' w.heap.size nv (formF s).2 ∧ Below w.heap.size w w' := by
  obtain ⟨i0, hi, hz0, hz1, hz2⟩ := info_parts info_int
  obtain ⟨i1, hj, hy0, hy1, hy2⟩ := info_parts info_str
  have HO := Lib.hid (okS_of hs)
  have HT := Lib.hid ht
  obtain ⟨ws, hws⟩ : ∃ ws, Lib.fields s = ws := ⟨_, rfl⟩
  have HWS := Lib.hid hws
  have hmany : ws.length ≤ 100 := by rw [← hws]; exact HO.out.many
  have HF : Hid (formF s = formL ws) := Lib.hid (by unfold formF; rw [hws])
  clear hs ht hws
  go_enter Tryd.func27, Tryd.ntmps27
  go_wp2_with fail
  refine (fields_any s _ HO.out.ascii HO.out.len ?_).mono ?_
  · exact HT.out.below (by (repeat' (first | with_reducible exact Below.refl _ _ | with_reducible assumption | with_reducible refine q_alloc ?_ _ | with_reducible refine q_drew ?_ | with_reducible refine q_drewN _ ?_ | with_reducible refine q_setCell ?_ ?_ _ | (left; simp; done) | (right; simp; done) | (right; dsimp only; omega) | (left; dsimp only; omega))))
  rintro e w1 ⟨rfl, rfl⟩
  rw [HWS.out]
  go_wp2_with fail
  refine code_world (fun W => FormSt w ws (formL (ws.take 0)) (.slice none 0 0) (.slice none 0 0) W) ⟨by (repeat' (first | with_reducible exact Below.refl _ _ | with_reducible assumption | with_reducible refine q_alloc ?_ _ | with_reducible refine q_drew ?_ | with_reducible refine q_drewN _ ?_ | with_reducible refine q_setCell ?_ ?_ _ | (left; simp; done) | (right; simp; done) | (right; dsimp only; omega) | (left; dsimp only; omega))), ?_, ?_, ?_, World.ownsRow_nil _ _ _ _, World.ownsRow_nil _ _ _ _⟩ ?_
  · exact ((Blk.new rfl).alloc _).alloc _
  · exact (blk_new1 rfl).alloc _
  · have := LayW.new ((w.alloc (Obj.cells #[Value.slice none 0 0, Value.bool false, Value.int IntKind.i64 0] 24)).alloc (Obj.cells #[Value.slice none 0 0, Value.bool false, Value.int IntKind.i64 0] 24)) (ws.map strV) 9
    simpa using this
  intro W0 hW0
  have HW0 := Lib.hid hW0
  clear hW0
  go_loopw [5, 13] (fun nv i wr => ∃ (k : Nat) (fv : Value), k ≤ ws.length ∧ i = .int .i64 k ∧ FormSt w ws (formL (ws.take k)) fv nv wr)
    (fun _ i _ => ws.length - (intOf i).toNat)
  case atStart => exact ⟨0, _, by omega, rfl, HW0.out⟩
  case round =>
    obtain ⟨k, fv, hk, rfl, hst⟩ := hrel
    by_cases hlt : k < ws.length
    · obtain ⟨x, hx⟩ : ∃ x, ws[k]? = some x := ⟨_, List.getElem?_eq_getElem hlt⟩
      have hfl := formL_take hx
      obtain ⟨hlA, hlB⟩ := formL_take_len ws k
      generalize hr : formL (ws.take k) = r at hst hfl hlA hlB
      have hwx := hst.words.2 k (strV x) (by rw [List.getElem?_map, hx]; rfl)
      obtain ⟨hwb, hxl⟩ := HO.out.word k x (by rw [HWS.out]; exact hx)
      have d0 := hst.b1.cell 0 rfl
      have d1 := hst.b1.cell 1 rfl
      have d2 := hst.b1.cell 2 rfl
      have f0 := hst.b1.froz 0 rfl
      have f1 := hst.b1.froz 1 rfl
      have f2 := hst.b1.froz 2 rfl
      have hlt' : (k : Int) < (ws.length : Int) := by omega
      have HST := Lib.hid hst
      have HFL := Lib.hid hfl
      have HWB := Lib.hid hwb
      clear hst hfl hr hx hwb
      by_cases h66 : x = [66]
      · subst h66
        clear HWB
        go_wp2_with fail
        go_roundw
        case rel => exact ⟨k + 1, fv, by omega, by go_num, by rw [HFL.out, stepF_b]; exact HST.out.bytes⟩
        case measure => simp [intOf]; omega
      · have e66 : (x == [66]) = false := by simpa using h66
        obtain ⟨h2, hd⟩ := wordB_of HWB.out h66
        have HD := Lib.hid hd
        clear HWB h66 hd
        go_wp2_with fail
        refine (split_any x _ h2 (by omega) HD.out).mono ?_
        rintro e w1 ⟨rfl, rfl⟩
        by_cases h76 : nameOf x = [76]
        · have HN := Lib.hid (stepF_l (r := r) e66 h76)
          generalize sizeOf_ x = sz at HN ⊢
          rw [h76]
          clear h76
          go_wp2_with fail
          go_roundw
          case rel => exact ⟨k + 1, fv, by omega, by go_num, by rw [HFL.out, HN.out]; exact HST.out.list sz⟩
          case measure => simp [intOf]; omega
        · have e76 : (nameOf x == [76]) = false := by simpa using h76
          have HN := Lib.hid (stepF_f (r := r) e66 e76)
          generalize sizeOf_ x = sz at HN ⊢
          generalize nameOf x = nm at HN e76 ⊢
          clear h76
          go_wp2_with (at_builtin; refine wpList_append_own _ rfl _ _ 22 rfl (w.heap.size + 3) 3 i0 (i6 0) 1 8 und_ints hi hz0 hz1 hz2 rfl (by decide) _ _ _ rfl (HST.out.ownI.alloc _) ⟨wr.heap.size, 0, none⟩ 1 1 [i6 sz] rfl rfl ?c1 ?c2 ?c3 ?c4 ?c5 ?_)
          case c1 =>
            intro j u hj
            match j, hj with
            | 0, hj => simp at hj; subst hj; exact cell_new rfl
          case c2 => intro u hu; simp at hu; subst hu; rfl
          case c3 => unfold maxLen; omega
          case c4 => omega
          case c5 => have := HST.out.words.1; simp; omega
          intro fv' w2 hown' hgrow _
          obtain ⟨fa', fm', fc', rfl⟩ := own_slice hown'
          have hA := HST.out.alloc (.cells #[i6 sz] 3)
          have k1 := hA.b1.grown hgrow (fun e => by have := (hA.ownI.lt _ e.symm).1; omega)
          have hF := hA.fixed sz hgrow (own_snocI hown')
          clear d0 d1 d2 f0 f1 f2
          have d0 := k1.cell 0 rfl
          have f0 := k1.froz 0 rfl
          have HF2 := Lib.hid hF
          clear hF k1 hA hown' hgrow
          go_wp2_with (at_builtin; refine wpList_append_own _ rfl _ _ 38 rfl (w.heap.size + 3) 9 i1 (.string ByteArray.empty) 1 16 und_strs hj hy0 hy1 hy2 rfl (by decide) _ _ _ rfl (HF2.out.ownS.alloc _) ⟨w2.heap.size, 0, none⟩ 1 1 [strV nm] rfl rfl ?e1 ?e2 ?e3 ?e4 ?e5 ?_)
          case e1 =>
            intro j u hj
            match j, hj with
            | 0, hj => simp at hj; subst hj; have hz := (Blk.new (w := w2.setCell ⟨w.heap.size + 1, 0, none⟩ (.slice fa' fm' fc')) (cs := #[strV nm]) (t := 9) rfl).cell 0 rfl; have hs : (w2.setCell ⟨w.heap.size + 1, 0, none⟩ (.slice fa' fm' fc')).heap.size = w2.heap.size := (by simp [World.setCell]); rw [hs] at hz; exact hz
          case e2 => intro u hu; simp at hu; subst hu; rfl
          case e3 => unfold maxLen; omega
          case e4 => omega
          case e5 => have := HF2.out.words.1; simp at this; simp; omega
          intro nv' w3 hown' hgrow _
          have hB := (HF2.out.alloc (.cells #[strV nm] 9)).name nm hgrow (own_snocS hown')
          have HB := Lib.hid hB
          clear hB hown' hgrow d0 f0
          go_wp2_with fail
          go_roundw
          case rel => exact ⟨k + 1, _, by omega, by go_num, by rw [HFL.out, HN.out]; exact HB.out⟩
          case measure => simp [intOf]; omega
    · obtain rfl : k = ws.length := by omega
      rw [List.take_length] at hst
      obtain ⟨fa, fm, fc, rfl⟩ := own_slice hst.ownI
      have HFE := Lib.hid (show formF s = formL ws from HF.out)
      generalize hr : formL ws = r at hst HFE
      have d0 := hst.b1.cell 0 rfl
      have d1 := hst.b1.cell 1 rfl
      have d2 := hst.b1.cell 2 rfl
      have c0 := hst.b0.cell 0 rfl
      have c1 := hst.b0.cell 1 rfl
      have c2 := hst.b0.cell 2 rfl
      have f0 := hst.b0.froz 0 rfl
      have f1 := hst.b0.froz 1 rfl
      have f2 := hst.b0.froz 2 rfl
      have hq := hst.below
      have hb0 := hst.b0
      have HST := Lib.hid hst
      clear hst hr
      go_wp2_with fail
      refine body_world (fun W => Below w.heap.size w W ∧ Blk W w.heap.size [.slice fa fm fc, .bool r.1.2.1, i6 r.1.2.2] ∧ OwnI W (w.heap.size + 3) (.slice fa fm fc) r.1.1 ∧ OwnS W (w.heap.size + 3) u5 r.2) ⟨by (repeat' (first | with_reducible exact Below.refl _ _ | with_reducible assumption | with_reducible refine q_alloc ?_ _ | with_reducible refine q_drew ?_ | with_reducible refine q_drewN _ ?_ | with_reducible refine q_setCell ?_ ?_ _ | (left; simp; done) | (right; simp; done) | (right; dsimp only; omega) | (left; dsimp only; omega))), ((hb0.set 0 _ (by simp) rfl).set 1 _ (by simp) rfl).set 2 _ (by simp) rfl, own_set (own_set (own_set HST.out.ownI (by omega)) (by omega)) (by omega), own_set (own_set (own_set HST.out.ownS (by omega)) (by omega)) (by omega)⟩ ?_
      intro W9 ⟨hq9, b9, i9, s9⟩
      clear d0 d1 d2 c0 c1 c2 f0 f1 f2
      have d0 := b9.cell 0 rfl
      have d1 := b9.cell 1 rfl
      have d2 := b9.cell 2 rfl
      exact bodyPost_ret (v := .tuple #[.agg #[.slice fa fm fc, .bool r.1.2.1, i6 r.1.2.2], u5]) (by simp [results, Tryd.results27, go_sem, d0, d1, d2]) rfl (by rw [HFE.out]; exact ⟨_, u5, rfl, own_le i9 (by omega), own_le s9 (by omega), hq9⟩)
end Go.Proofs.YtbffnobchjiaeaaDoor
