/- Layer 3: the names of fields. -/
import Derived.Test.YtbffnobchjiaeaaDoorCd17
namespace Go.Proofs.YtbffnobchjiaeaaDoor
open Go Go.RowKit
set_option linter.unusedSimpArgs false
set_option linter.unusedVariables false
/-- A word's name, as the document reads it. -/
def nameR (x : B8) : B8 := x.take (if x.getD (x.length - 1 - 1) 0 == 45 then x.length - 1 - 1 else x.length - 1)
def skipR (x : B8) : Bool := x == [] || x == [66] || x.getD 0 0 == 76
def namesR (ps : List B8) : List B8 := (ps.filter fun x => !skipR x).map nameR
def eqFld (k : Nat) : Bool := (formF (reqT (k + 1)).2.1).2 == namesR (partsF ((partsF (reqL.getD k []) 124).getD 1 []) 32) && decide (((partsF (reqL.getD k []) 124).getD 1 []).length ≤ 1000)
theorem fld_eq : (List.range 58).all eqFld = true := by decide +kernel
theorem names_take {ps : List B8} {k : Nat} {x : B8} (h : ps[k]? = some x) : namesR (ps.take (k + 1)) = namesR (ps.take k) ++ (if skipR x then [] else [nameR x]) := by
  unfold namesR
  rw [List.take_add_one, h]
  simp only [Option.toList, List.filter_append, List.map_append]
  cases hs : skipR x <;> simp [hs]
theorem names_take_len (ps : List B8) (k : Nat) : (namesR (ps.take k)).length ≤ k := by
  unfold namesR
  rw [List.length_map]
  exact Nat.le_trans (List.length_filter_le _ _) (List.length_take_le _ _)
set_option maxRecDepth 100000 in
set_option maxHeartbeats 2000000 in
theorem pfields_any (n : Int) (w : World) (ht : RowAt 0 spaceC w) (hs : okS (reqT n).2.1 = true) : Calls Tryd.prog 23 #[i6 n] w fun e w' => ∃ v, e = .returned v ∧ OwnS w' w.heap.size v (formF (reqT n).2.1).2 ∧ Below w.heap.size w w' := by
  have HT := Lib.hid ht
  have HS := Lib.hid hs
  clear ht hs
  generalize hen : reqT n = en at HS ⊢
  have HE := Lib.hid hen
  clear hen
  obtain ⟨FF, hFF⟩ : ∃ FF, formF en.2.1 = FF := ⟨_, rfl⟩
  rw [hFF]
  have HFF := Lib.hid hFF
  clear hFF
  go_enter Tryd.func23, Tryd.ntmps23
  go_wp2_with fail
  refine (request_any n _).mono ?_
  rintro e w1 ⟨rfl, hb⟩
  rw [HE.out]
  have hfd : ∀ w, (Instr.field 44 (eV en) 1).run Tryd.prog w = .ok (strV en.2.1) w := fun _ => by kernel_rfl
  go_wp2_with fail
  refine (form_any en.2.1 _ HS.out (HT.out.below hb)).mono ?_
  rintro e w2 ⟨fv, nv, rfl, hI, hN, hb2⟩
  rw [HFF.out] at hI hN ⊢
  obtain ⟨fa, fm, fc, rfl⟩ := own_slice hI
  have HN := Lib.hid (own_le (base' := w.heap.size) hN hb.size)
  clear hI hN
  go_wp2_with fail
  go_returns
  exact ⟨_, rfl, HN.out.alloc _, q_alloc (q_step hb hb2) _⟩
/-- The loop over the words: what is told of them. -/
theorem rfld_skip {x : B8} (h : skipR x = true) (ps : List B8) (k : Nat) (hk : ps[k]? = some x) : namesR (ps.take (k + 1)) = namesR (ps.take k) := by rw [names_take hk, h]; simp
set_option maxRecDepth 100000 in
set_option maxHeartbeats 8000000 in
theorem rfields_any (k0 : Nat) (hk0 : k0 < 58) (w : World) : Calls Tryd.prog 24 #[i6 ((k0 : Int) + 1)] w fun e w' => ∃ v, e = .returned v ∧ OwnS w' w.heap.size v (formF (reqT ((k0 : Int) + 1)).2.1).2 ∧ Below w.heap.size w w' := by
  obtain ⟨i1, hj, hy0, hy1, hy2⟩ := info_parts info_str
  obtain ⟨s, hs⟩ := reqIs k0 hk0
  have hfl := (List.all_eq_true.1 fld_eq) k0 (by simpa using hk0)
  unfold eqFld at hfl
  simp only [Bool.and_eq_true, beq_iff_eq, decide_eq_true_eq] at hfl
  have hsk : reqL.getD k0 [] = s := by simp [List.getD, hs.at_]
  rw [hsk] at hfl
  obtain ⟨NN, hNN⟩ : ∃ NN, (formF (reqT ((k0 : Int) + 1)).2.1).2 = NN := ⟨_, rfl⟩
  rw [hNN] at hfl ⊢
  have HS := Lib.hid hs
  obtain ⟨ps, hps⟩ : ∃ ps, partsF s 124 = ps := ⟨_, rfl⟩
  have htwo : ps.length = 2 := by rw [← hps]; exact HS.out.two
  have hok := HS.out.ok
  rw [hps] at hok hfl
  have HPS := Lib.hid hps
  clear hps hs hNN hsk
  obtain ⟨p0, p1, rfl⟩ : ∃ p0 p1, ps = [p0, p1] := by
    match ps, htwo with
    | [p0, p1], _ => exact ⟨p0, p1, rfl⟩
  clear htwo
  simp only [List.getD, List.getElem?_cons_succ, List.getElem?_cons_zero, Option.getD_some] at hok hfl
  have HNN := Lib.hid hfl.1
  have HLN := Lib.hid hfl.2
  have HW : Hid (∀ (k : Nat) (x : B8), (partsF p1 32)[k]? = some x → wordR x = true ∧ x.length ≤ 100) := Lib.hid (okR_of hok).word
  have hmany := (okR_of hok).many
  have hpos : 0 < (partsF p1 32).length := partsGo_pos _ _ _
  clear hok hfl
  obtain ⟨ps, hps⟩ : ∃ ps, partsF p1 32 = ps := ⟨_, rfl⟩
  rw [hps] at HW hmany hpos HNN
  have HP1 := Lib.hid hps
  clear hps
  have hwr : IntKind.i64.wrap ((k0 : Int) + 1 - 1) = (k0 : Int) := by rw [IntWalk.i64_in _ (by omega)]; omega
  have hsb : (k0 : Int) + 1 - 1 = (k0 : Int) := by omega
  go_enter Tryd.func24, Tryd.ntmps24
  go_wp2_with fail
  refine (requests_any _).mono ?_
  rintro e w1 ⟨rfl, _, hb1⟩
  go_wp2_with fail
  refine (requests_any _).mono ?_
  rintro e w2 ⟨rfl, hl2, hb2⟩
  have hq2 := q_step hb1 hb2
  have dk := hl2.2 k0 (strV s) (by rw [List.getElem?_map, HS.out.at_]; rfl)
  clear hl2 hb2 hb1
  go_wp2_with fail
  refine (parts_any s 124 _ HS.out.len).mono ?_
  rintro e w3 ⟨v, rfl, hown, hb3⟩
  rw [HPS.out] at hown
  obtain ⟨g, cap, rfl⟩ := Joins.ownsRow_form hown (by simp)
  have e1 := hown.cellAt 1 (by simp)
  simp at e1
  have hq3 := q_step hq2 hb3
  clear hown dk hb3 hq2
  go_wp2_with fail
  refine (parts_any p1 32 _ HLN.out).mono ?_
  rintro e w4 ⟨v, rfl, hown, hb4⟩
  rw [HP1.out] at hown
  obtain ⟨g, cap, rfl⟩ := Joins.ownsRow_form hown hpos
  have hlay : LayW w4 g (ps.map strV) := ⟨(hown.lt g rfl).2, fun j u hj => by
    have hjl : j < ps.length := by have := (List.getElem?_eq_some_iff.1 hj).1; simpa using this
    exact (hown.cellAt j (by omega)).trans hj⟩
  have hq4 := q_step hq3 hb4
  have HLAY := Lib.hid hlay
  clear hown e1 hb4 hq3 hlay hwr hsb
  go_wp2_with fail
  obtain ⟨w0, hw0⟩ : ∃ w0 : World, w0 = w4 := ⟨_, rfl⟩
  subst hw0
  have HQ4 := Lib.hid hq4
  clear hq4
  go_loopw [3, 5] (fun out i wr => ∃ (k : Nat) (r : List B8), k ≤ ps.length ∧ i = .int .i64 k ∧ namesR (ps.take k) = r ∧ OwnS wr w0.heap.size out r ∧ Below w0.heap.size w0 wr)
    (fun _ i _ => ps.length - (intOf i).toNat)
  case atStart => exact ⟨0, [], by omega, rfl, rfl, World.ownsRow_nil _ _ _ _, Below.refl _ _⟩
  case round =>
    obtain ⟨k, r, hk, rfl, hr, hown, hq⟩ := hrel
    by_cases hlt : k < ps.length
    · obtain ⟨x, hx⟩ : ∃ x, ps[k]? = some x := ⟨_, List.getElem?_eq_getElem hlt⟩
      have hfl := names_take hx
      have hskp := fun h => rfld_skip (x := x) h ps k hx
      have hlA := names_take_len ps k
      rw [hr] at hfl hskp hlA
      have hwx : wr.cell? ⟨g, k, none⟩ = some (strV x) := cell_below hq (HLAY.out.2 k (strV x) (by rw [List.getElem?_map, hx]; rfl))
      obtain ⟨hwb, hxl⟩ := HW.out k x hx
      have hlt' : (k : Int) < (ps.length : Int) := by omega
      have HO := Lib.hid hown
      have HFL := Lib.hid hfl
      have HSK := Lib.hid hskp
      have HWB := Lib.hid hwb
      clear hfl hr hx hwb hown hskp
      by_cases h0 : x = []
      · subst h0
        have HN := Lib.hid (HSK.out rfl)
        clear HSK HFL
        go_wp2_with fail
        go_roundw
        case rel => exact ⟨k + 1, r, by omega, by go_num, HN.out, HO.out, hq⟩
        case measure => simp [intOf] <;> omega
      by_cases h66 : x = [66]
      · subst h66
        have HN := Lib.hid (HSK.out rfl)
        clear HSK HFL
        go_wp2_with fail
        go_roundw
        case rel => exact ⟨k + 1, r, by omega, by go_num, HN.out, HO.out, hq⟩
        case measure => simp [intOf] <;> omega
      · have e66 : (x == [66]) = false := by simpa using h66
        have e00 : (x == []) = false := by simpa using h0
        have h2 := wordR_of HWB.out h0 h66
        obtain ⟨m, hm⟩ : ∃ m, x.length = m + 2 := ⟨x.length - 2, by omega⟩
        have hsz : (⟨x.toArray⟩ : ByteArray).size = m + 2 := by show x.toArray.size = _; simpa using hm
        have g0 : (((⟨x.toArray⟩ : ByteArray)[m]'(by rw [hsz]; omega)).toNat : Int) = ((x.getD m 0).toNat : Int) := by rw [get_str x m (by omega)]
        have gl : (((⟨x.toArray⟩ : ByteArray)[0]'(by rw [hsz]; omega)).toNat : Int) = ((x.getD 0 0).toNat : Int) := by rw [get_str x 0 (by omega)]
        have t0 := u8_45 (x.getD m 0)
        have tl := u8_76 (x.getD 0 0)
        have hpos2 : 0 < m + 2 := by omega
        generalize hng : (x.getD m 0 == 45) = B0 at t0
        generalize hbl : (x.getD 0 0 == 76) = BL at tl
        generalize (x.getD m 0).toNat = C0 at g0 t0
        generalize (x.getD 0 0).toNat = CL at gl tl
        clear HWB
        cases BL
        · cases B0
          · have hS : nameR x = x.take (m + 1) := by unfold nameR; rw [hm]; rw [show m + 2 - 1 - 1 = m by omega, hng]; rfl
            have hpc : (⟨x.toArray⟩ : ByteArray).extract 0 (m + 1) = ⟨(x.take (m + 1)).toArray⟩ := ext_take x (m + 1)
            have hskf : skipR x = false := by unfold skipR; rw [e00, e66, hbl]; rfl
            have HN : Hid (namesR (ps.take (k + 1)) = r ++ [x.take (m + 1)]) := Lib.hid (by rw [HFL.out, hskf, hS]; rfl)
            generalize x.take (m + 1) = pc at HN hpc
            clear hng hS hbl hskf HFL
            go_wp2_with (at_builtin; refine wpList_append_own _ rfl _ _ 38 rfl w0.heap.size 9 i1 (.string ByteArray.empty) 1 16 und_strs hj hy0 hy1 hy2 rfl (by decide) _ _ _ rfl (HO.out.alloc _) ⟨wr.heap.size, 0, none⟩ 1 1 [strV pc] rfl rfl ?c1 ?c2 ?c3 ?c4 ?c5 ?_)
            case c1 =>
              intro j u hj
              match j, hj with
              | 0, hj => simp at hj; subst hj; exact cell_new rfl
            case c2 => intro u hu; simp at hu; subst hu; rfl
            case c3 => unfold maxLen; omega
            case c4 => omega
            case c5 => have := hq.size; simp; omega
            intro v' w1 hown' hgrow _
            have hq1 : Below w0.heap.size w0 w1 := (hq.alloc hq.size _).grown hgrow (by have := hq.size; simp; omega) (fun j hj => (HO.out.lt j hj).1)
            have HO1 := Lib.hid (own_snocS hown')
            clear hown' hgrow HO hq hpc
            go_wp2_with fail
            go_roundw
            case rel => exact ⟨k + 1, _, by omega, by go_num, HN.out, HO1.out, hq1⟩
            case measure => simp [intOf] <;> omega
          · have hS : nameR x = x.take m := by unfold nameR; rw [hm]; rw [show m + 2 - 1 - 1 = m by omega, hng]; rfl
            have hpc : (⟨x.toArray⟩ : ByteArray).extract 0 m = ⟨(x.take m).toArray⟩ := ext_take x m
            have hskf : skipR x = false := by unfold skipR; rw [e00, e66, hbl]; rfl
            have HN : Hid (namesR (ps.take (k + 1)) = r ++ [x.take m]) := Lib.hid (by rw [HFL.out, hskf, hS]; rfl)
            generalize x.take m = pc at HN hpc
            clear hng hS hbl hskf HFL
            go_wp2_with (at_builtin; refine wpList_append_own _ rfl _ _ 38 rfl w0.heap.size 9 i1 (.string ByteArray.empty) 1 16 und_strs hj hy0 hy1 hy2 rfl (by decide) _ _ _ rfl (HO.out.alloc _) ⟨wr.heap.size, 0, none⟩ 1 1 [strV pc] rfl rfl ?c1 ?c2 ?c3 ?c4 ?c5 ?_)
            case c1 =>
              intro j u hj
              match j, hj with
              | 0, hj => simp at hj; subst hj; exact cell_new rfl
            case c2 => intro u hu; simp at hu; subst hu; rfl
            case c3 => unfold maxLen; omega
            case c4 => omega
            case c5 => have := hq.size; simp; omega
            intro v' w1 hown' hgrow _
            have hq1 : Below w0.heap.size w0 w1 := (hq.alloc hq.size _).grown hgrow (by have := hq.size; simp; omega) (fun j hj => (HO.out.lt j hj).1)
            have HO1 := Lib.hid (own_snocS hown')
            clear hown' hgrow HO hq hpc
            go_wp2_with fail
            go_roundw
            case rel => exact ⟨k + 1, _, by omega, by go_num, HN.out, HO1.out, hq1⟩
            case measure => simp [intOf] <;> omega
        · have HN := Lib.hid (HSK.out (by unfold skipR; rw [hbl]; simp))
          clear HSK HFL hbl hng
          go_wp2_with fail
          go_roundw
          case rel => exact ⟨k + 1, r, by omega, by go_num, HN.out, HO.out, hq⟩
          case measure => simp [intOf] <;> omega
    · obtain rfl : k = ps.length := by omega
      rw [List.take_length] at hr
      have HNE : Hid (NN = r) := Lib.hid (HNN.out.trans hr)
      have HO := Lib.hid (own_le (base' := w.heap.size) hown HQ4.out.size)
      clear hown hr
      go_wp2_with fail
      go_returns
      exact ⟨_, rfl, by rw [HNE.out]; exact HO.out, q_step HQ4.out hq⟩
end Go.Proofs.YtbffnobchjiaeaaDoor
