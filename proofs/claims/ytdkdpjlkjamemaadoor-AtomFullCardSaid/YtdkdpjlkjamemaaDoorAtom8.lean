/- Layer 9: Intern, where a name is new. -/
import Derived.Test.YtdkdpjlkjamemaaDoorAtom7
namespace Go.Proofs.YtdkdpjlkjamemaaDoor
open Go Go.RowKit Go.Maps
set_option linter.unusedSimpArgs false
set_option linter.unusedVariables false

theorem Blk.grown {w w' : World} {c b : Nat} {vs : List Value} (h : Blk w c vs) (hg : w.grownBy w' (some b)) (hne : c ≠ b) : Blk w' c vs := by
  have hb : w'.heap[c]? = w.heap[c]? := hg.block c h.1 (by intro e; exact hne (Option.some.inj e))
  refine ⟨Nat.lt_of_lt_of_le h.1 hg.size, fun j v hj => ?_⟩
  have h1 := (h.2 j v hj).1
  have h2 := (h.2 j v hj).2
  refine ⟨(World.cell?_of_block (w := w) hb).trans h1, ?_⟩
  exact (World.frozen?_of_block (w := w) hb).trans h2
theorem mapOf_put {D : DataW Unit} {more : List B} {s : B} (h : MapOf D more) (hf : findL more s = 0) :
    MapOf (D.put (.string s) (.lit (.int .u32 ((11 + more.length : Nat) : Int)))) (more ++ [s]) := by
  refine ⟨h.1.put _ _, fun x => ?_⟩
  by_cases hx : x = s
  · subst hx
    rw [atKey_put_same h.1 (k := .string x) (by unfold WideAt.IsKeyLit; trivial)]
    unfold numM
    rw [findL_app, hf]
    simp [findL]
    omega
  · have hne : Lit.string x ≠ Lit.string s := fun e => hx (by cases e; rfl)
    rw [atKey_put_other hne, h.2 x]
    unfold numM
    rw [findL_app]
    by_cases h0 : findL more x = 0
    · simp [h0, findL, Ne.symm hx]
    · simp [h0]
/-- The value's block is no older than that. -/
def VLo (lo : Nat) (v : Value) : Prop := ∀ b off n cap, v = .slice (some ⟨b, off, none⟩) n cap → lo ≤ b
def MLo (lo : Nat) (v : Value) : Prop := ∀ b, v = .map (some b) → lo ≤ b
theorem vlo_mk {lo b off n cap : Nat} (h : lo ≤ b) : VLo lo (.slice (some ⟨b, off, none⟩) n cap) := by
  intro b' off' n' cap' e
  simp only [Value.slice.injEq, Option.some.injEq, Addr.mk.injEq] at e
  obtain ⟨⟨rfl, _⟩, _⟩ := e
  exact h
theorem mlo_mk {lo b : Nat} (h : lo ≤ b) : MLo lo (.map (some b)) := by
  intro b' e
  simp only [Value.map.injEq, Option.some.injEq] at e
  rw [← e]; exact h
theorem VLo.le {lo lo' : Nat} {v : Value} (h : VLo lo v) (hl : lo' ≤ lo) : VLo lo' v := fun b off n cap e => Nat.le_trans hl (h b off n cap e)
theorem MLo.le {lo lo' : Nat} {v : Value} (h : MLo lo v) (hl : lo' ≤ lo) : MLo lo' v := fun b e => Nat.le_trans hl (h b e)
theorem mapOf_none : MapOf (.map []) [] := ⟨isMap_empty, fun s => by simp [numM, findL, DataW.atKey]⟩

theorem ownS_form {w : World} {base : Nat} {v : Value} {ss : List B} (h : OwnS w base v ss) (hp : 0 < ss.length) : ∃ g cap, v = .slice (some ⟨g, 0, none⟩) ss.length cap ∧ ss.length ≤ cap ∧ cap ≤ maxLen ∧ base ≤ g ∧ LayS w g 0 ss := by
  obtain ⟨g, cap, rfl⟩ := Joins.ownsRow_form h hp
  have hlt := h.lt g rfl
  rcases ownS_is h with ⟨a, cap', he, h0⟩ | ⟨b, off, cap', he, _, h2, h3, hb, hl⟩
  · rw [h0] at hp; simp at hp
  · simp only [Value.slice.injEq, Option.some.injEq, Addr.mk.injEq] at he
    obtain ⟨⟨rfl, rfl, _⟩, _, rfl⟩ := he
    exact ⟨g, cap, rfl, h2, h3, hlt.1, hl⟩
theorem tab_set {w : World} {base g cap mc n c k : Nat} {D : DataW Unit} {ss : List B} {v0 v1 : Value} (h : OwnS w base (.slice (some ⟨g, 0, none⟩) ss.length cap) ss) (hc : ss.length ≤ cap) (hm : cap ≤ maxLen) (hl : LayS w g 0 ss)
    (hO : OwnsA w mc n D) (hM : MapOf D ss) (hg : c ≠ g) (hmc : c ≠ mc) (hp : 0 < ss.length) (hk : ss.length = k) (hn : ss.length = n) :
    TabOf ((w.setCell ⟨c, 0, none⟩ v0).setCell ⟨c, 1, none⟩ v1) (.slice (some ⟨g, 0, none⟩) k cap) (.map (some mc)) ss := by
  subst hk hn
  have hlt := (h.lt g rfl).2
  refine Or.inr ⟨hp, ⟨g, 0, cap, rfl, hc, hm, by simpa [World.setCell] using hlt, fun k s hk => ?_⟩, mc, D, rfl, (hO.setCell (a := ⟨c, 0, none⟩) (Ne.symm hmc) v0).setCell (a := ⟨c, 1, none⟩) (Ne.symm hmc) v1, hM⟩
  exact set_far (set_far (hl k s hk) (blk_ne hg)) (blk_ne hg)

set_option maxRecDepth 100000 in
set_option maxHeartbeats 8000000 in
theorem intern_new_own (s : B) (w : World) (hs : RowAt 0 knownCells w) (hsl : s.length ≤ 100000) (b off n cap mb : Nat) (more : List B) (D : DataW Unit) (hml : more.length ≤ 1013) (hnl : more.length = n) (h0 : 0 < more.length) (hL : LayS w b off more) (hO : OwnsA w mb n D) (hM : MapOf D more) (hT : TabOf w (.slice (some ⟨b, off, none⟩) n cap) (.map (some mb)) more) (hg : numT more s = 0) (hnb : nameB s = true) :
    Calls Tryd.prog 12 #[.agg #[.slice (some ⟨b, off, none⟩) n cap, .map (some mb)], strV s, .bool false] w fun e w' => ∃ sv' mv', e = .returned (.tuple #[.agg #[sv', mv'], u3 ((11 + more.length : Nat) : Int), i6 0]) ∧ TabOf w' sv' mv' (more ++ [s]) ∧ Below w.heap.size w w' ∧ VLo w.heap.size sv' ∧ MLo w.heap.size mv' := by
  have HS := Lib.hid hs
  have HNB := Lib.hid hnb
  have HG := Lib.hid hg
  have hkey := key_of s (by unfold maxLen; omega)
  have HT := Lib.hid hT
  have HL := Lib.hid hL
  have HO := Lib.hid hO
  have HP := Lib.hid h0
  have HNL := Lib.hid hnl
  have hfm : findL more s = 0 := (findL_zero more s).2 fun hin => (findL_zero _ s).1 hg (List.mem_append_right _ hin)
  have hmp := mapOf_put hM hfm
  rw [hnl] at hmp
  obtain ⟨NN, hNN⟩ : ∃ NN : Int, ((11 + n : Nat) : Int) = NN := ⟨_, rfl⟩
  rw [hNN] at hmp
  have HMP := Lib.hid hmp
  have hn5 : n ≤ 1013 := by omega
  have HNN := Lib.hid hNN
  rw [hnl, hNN]
  have hml : more.length ≤ 100000 := by omega
  clear hs hnb hg hnl h0 hL hO hM hT hfm hmp hNN
  go_enter Tryd.func12, Tryd.ntmps12
  go_wp2_with fail
  refine calls_world (fun W => Below w.heap.size w W ∧ Blk W (w.heap.size) [.slice (some ⟨b, off, none⟩) n cap, .map (some mb)] ∧ Blk W (w.heap.size + 1) [.slice none 0 0, .map none]) ⟨by (repeat' (first | with_reducible exact Below.refl _ _ | with_reducible assumption | with_reducible refine q_alloc ?_ _ | with_reducible refine q_drew ?_ | with_reducible refine q_drewN _ ?_ | with_reducible refine q_setCell ?_ ?_ _ | (left; simp; done) | (right; simp; done) | (right; dsimp only; omega) | (left; dsimp only; omega))), (Blk.new rfl).alloc _, blk_new1 rfl⟩ ?_
  intro W1 ⟨hq1, b1_0, b1_1⟩
  refine (isName_any s _).mono ?_
  rintro e w2 ⟨rfl, rfl⟩
  rw [HNB.out]
  have b1_0c0 := b1_0.cell 0 rfl
  have b1_0f0 := b1_0.froz 0 rfl
  have b1_0c1 := b1_0.cell 1 rfl
  have b1_0f1 := b1_0.froz 1 rfl
  have b1_0z := b1_0.lt
  have b1_1c0 := b1_1.cell 0 rfl
  have b1_1f0 := b1_1.froz 0 rfl
  have b1_1c1 := b1_1.cell 1 rfl
  have b1_1f1 := b1_1.froz 1 rfl
  have b1_1z := b1_1.lt
  go_wp2_with fail
  clear b1_0c0 b1_0f0 b1_0c1 b1_0f1 b1_0z b1_1c0 b1_1f0 b1_1c1 b1_1f1 b1_1z
  refine (find_any (.slice (some ⟨b, off, none⟩) n cap) (.map (some mb)) more s _ (HS.out.below hq1) hsl hml (HT.out.below hq1)).mono ?_
  rintro e w2 ⟨rfl, hb⟩
  have hq2 : Below w.heap.size w w2 := q_step hq1 hb
  have b2_0 := b1_0.below hb
  have b2_1 := b1_1.below hb
  clear hb b1_0 b1_1 hq1
  have b2_0c0 := b2_0.cell 0 rfl
  have b2_0f0 := b2_0.froz 0 rfl
  have b2_0c1 := b2_0.cell 1 rfl
  have b2_0f1 := b2_0.froz 1 rfl
  have b2_0z := b2_0.lt
  have b2_1c0 := b2_1.cell 0 rfl
  have b2_1f0 := b2_1.froz 0 rfl
  have b2_1c1 := b2_1.cell 1 rfl
  have b2_1f1 := b2_1.froz 1 rfl
  have b2_1z := b2_1.lt
  rw [HG.out]
  go_wp2_with fail
  clear b2_0c0 b2_0f0 b2_0c1 b2_0f1 b2_0z b2_1c0 b2_1f0 b2_1c1 b2_1f1 b2_1z
  refine (len_any _ n cap (.map (some mb)) _ (by omega)).mono ?_
  rintro e w3 ⟨rfl, hb⟩
  have hq3 : Below w.heap.size w w3 := q_step hq2 hb
  have b3_0 := b2_0.below hb
  have b3_1 := b2_1.below hb
  clear hb b2_0 b2_1 hq2
  have b3_0c0 := b3_0.cell 0 rfl
  have b3_0f0 := b3_0.froz 0 rfl
  have b3_0c1 := b3_0.cell 1 rfl
  have b3_0f1 := b3_0.froz 1 rfl
  have b3_0z := b3_0.lt
  have b3_1c0 := b3_1.cell 0 rfl
  have b3_1f0 := b3_1.froz 0 rfl
  have b3_1c1 := b3_1.cell 1 rfl
  have b3_1f1 := b3_1.froz 1 rfl
  have b3_1z := b3_1.lt
  go_wp2_with fail
  clear b3_0c0 b3_0f0 b3_0c1 b3_0f1 b3_0z b3_1c0 b3_1f0 b3_1c1 b3_1f1 b3_1z
  have hO0 := ownsA_below HO.out hq3
  have hmc : w.heap.size + 1 < w3.heap.size := b3_1.lt
  refine (mclone_own mb n D _ hO0).mono ?_
  rintro e w4 ⟨rfl, hO4, hb⟩
  have hq4 := q_step hq3 hb
  have b4_0 := b3_0.below hb
  have b4_1 := b3_1.below hb
  clear hb hO0 hq3 b3_0 b3_1
  have hzz := hmc
  clear hmc
  generalize w3.heap.size = mc at hzz hO4 ⊢
  have b4_0c0 := b4_0.cell 0 rfl
  have b4_0f0 := b4_0.froz 0 rfl
  have b4_0c1 := b4_0.cell 1 rfl
  have b4_0f1 := b4_0.froz 1 rfl
  have b4_0z := b4_0.lt
  have b4_1c0 := b4_1.cell 0 rfl
  have b4_1f0 := b4_1.froz 0 rfl
  have b4_1c1 := b4_1.cell 1 rfl
  have b4_1f1 := b4_1.froz 1 rfl
  have b4_1z := b4_1.lt
  have hqm := fun w => eqNilMap (some mc) w
  go_wp2_with fail
  clear b4_0c0 b4_0f0 b4_0c1 b4_0f1 b4_0z b4_1c0 b4_1f0 b4_1c1 b4_1f1 b4_1z
  refine (len_any _ n cap (.map (some mb)) _ (by omega)).mono ?_
  rintro e w5 ⟨rfl, hb⟩
  have hq5 := q_step hq4 hb
  have b5_0 := b4_0.below hb
  have b5_1 := b4_1.below hb
  have hO5 := ownsA_below hO4 hb
  clear hb hO4 hq4 b4_0 b4_1
  have b5_0c0 := b5_0.cell 0 rfl
  have b5_0f0 := b5_0.froz 0 rfl
  have b5_0c1 := b5_0.cell 1 rfl
  have b5_0f1 := b5_0.froz 1 rfl
  have b5_0z := b5_0.lt
  have b5_1c0 := b5_1.cell 0 rfl
  have b5_1f0 := b5_1.froz 0 rfl
  have b5_1c1 := b5_1.cell 1 rfl
  have b5_1f1 := b5_1.froz 1 rfl
  have b5_1z := b5_1.lt
  have hw1 : IntKind.i64.wrap (((10 + n : Nat) : Int) + 1) = ((11 + n : Nat) : Int) := by rw [show (((10 + n : Nat) : Int) + 1) = ((11 + n : Nat) : Int) by omega]; exact IntWalk.i64_in _ (by omega)
  have hw2 : IntKind.u32.wrap ((11 + n : Nat) : Int) = ((11 + n : Nat) : Int) := by first | (simp only [IntKind.wrap, IntKind.bits, IntKind.signed]; simp; done) | (simp only [IntKind.wrap, IntKind.bits, IntKind.signed]; simp; omega)
  have hpe : plainElem (H := Unit) Tryd.prog 25 (u3 ((11 + n : Nat) : Int)) = some (.lit (.int .u32 ((11 + n : Nat) : Int)), []) := plainElem_int und_atom (by first | (simp [Lit.wf, IntKind.min, IntKind.max, IntKind.bits, IntKind.signed]; done) | (simp [Lit.wf, IntKind.min, IntKind.max, IntKind.bits, IntKind.signed]; omega))
  rw [HNN.out] at hw1 hw2 hpe
  generalize ((10 + n : Nat) : Int) = MM at hw1 ⊢
  go_wp2_with (at_mapUpdate; refine wpList_mapUpdate_own _ rfl _ _ _ 28 rfl 9 25 (string_keyed und_str) und_amap _ mc n D rfl hO5 (by unfold maxLen; omega) _ _ (.string s) rfl rfl hkey _ [] hpe ?_)
  intro w6 hO6 hgr
  have hq6 : Below w.heap.size w w6 := hq5.grown hgr hq5.size (fun i hi => by cases hi; omega)
  clear b5_0c0 b5_0f0 b5_0c1 b5_0f1 b5_0z b5_1c0 b5_1f0 b5_1c1 b5_1f1 b5_1z hw1 hw2 hpe hkey
  have b6_0 := b5_0.grown hgr (by omega)
  have b6_1 := b5_1.grown hgr (by omega)
  clear hgr hO5 hq5 b5_0 b5_1
  have b6_0c0 := b6_0.cell 0 rfl
  have b6_0f0 := b6_0.froz 0 rfl
  have b6_0c1 := b6_0.cell 1 rfl
  have b6_0f1 := b6_0.froz 1 rfl
  have b6_0z := b6_0.lt
  have b6_1c0 := b6_1.cell 0 rfl
  have b6_1f0 := b6_1.froz 0 rfl
  have b6_1c1 := b6_1.cell 1 rfl
  have b6_1f1 := b6_1.froz 1 rfl
  have b6_1z := b6_1.lt
  go_wp2_with fail
  clear b6_0c0 b6_0f0 b6_0c1 b6_0f1 b6_0z b6_1c0 b6_1f0 b6_1c1 b6_1f1 b6_1z
  have hcl := clone_some b off cap more _ (HL.out.below hq6) hml HP.out
  rw [HNL.out] at hcl
  refine hcl.mono ?_
  clear hcl
  rintro e w7 ⟨cv, rfl, hcv, hb⟩
  have hmw : mc < w6.heap.size := hO6.lt
  have hq7 := q_step hq6 hb
  have b7_0 := b6_0.below hb
  have b7_1 := b6_1.below hb
  have hO7 := ownsA_below hO6 hb
  have hws := hb.size
  clear hb hO6 hq6 b6_0 b6_1
  generalize hBB : w6.heap.size = BB at hcv hmw hws
  clear hBB
  have b7_0c0 := b7_0.cell 0 rfl
  have b7_0f0 := b7_0.froz 0 rfl
  have b7_0c1 := b7_0.cell 1 rfl
  have b7_0f1 := b7_0.froz 1 rfl
  have b7_0z := b7_0.lt
  have b7_1c0 := b7_1.cell 0 rfl
  have b7_1f0 := b7_1.froz 0 rfl
  have b7_1c1 := b7_1.cell 1 rfl
  have b7_1f1 := b7_1.froz 1 rfl
  have b7_1z := b7_1.lt
  obtain ⟨i0, hi, hz0, hz1, hz2⟩ := info_parts info_str
  go_wp2_with (at_builtin; refine wpList_append_own _ rfl _ _ 22 rfl BB 9 i0 (.string ⟨#[]⟩) 1 16 und_strs hi hz0 hz1 hz2 rfl (by decide) _ _ _ rfl (hcv.alloc _) ⟨w7.heap.size, 0, none⟩ 1 1 [strV s] rfl rfl strV_cells strV_one ?c3 ?c4 ?c5 ?_)
  case c3 => unfold maxLen; omega
  case c4 => omega
  case c5 => simp; omega
  intro vv w8 hvv hgr _
  have hlt := fun g hg => hcv.lt g hg
  have hq8 : Below w.heap.size w w8 := (q_alloc hq7 _).grown hgr (by have := hq7.size; simp; omega) (fun g hg => by have := hlt g hg; omega)
  clear b7_0c0 b7_0f0 b7_0c1 b7_0f1 b7_0z b7_1c0 b7_1f0 b7_1c1 b7_1f1 b7_1z
  have hOz : OwnsA w8 mc _ _ := (hO7.alloc _).kept hgr (by intro e; have := hlt mc e.symm; omega)
  have hB1 : Blk w8 (w.heap.size + 1) [.slice none 0 0, .map none] := by
    have hb1 := b7_1.alloc (.cells #[strV s] 9)
    have hbk : w8.heap[w.heap.size + 1]? = _ := hgr.block (w.heap.size + 1) hb1.1 (by intro e; have := hlt (w.heap.size + 1) e.symm; omega)
    refine ⟨Nat.lt_of_lt_of_le hb1.1 hgr.size, fun i v hi => ⟨(World.cell?_of_block (a := ⟨w.heap.size + 1, i, none⟩) hbk).trans (hb1.2 i v hi).1, (World.frozen?_of_block (a := ⟨w.heap.size + 1, i, none⟩) hbk).trans (hb1.2 i v hi).2⟩⟩
  have hvo : OwnS w8 BB vv (more ++ [s]) := by
    unfold OwnS
    rw [List.map_append, List.length_append]
    exact hvv
  clear hvv hgr hcv hO7 b7_0 b7_1 hq7
  have hB1c0 := hB1.cell 0 rfl
  have hB1c1 := hB1.cell 1 rfl
  have hB1f0 := hB1.froz 0 rfl
  have hB1f1 := hB1.froz 1 rfl
  have hB1z := hB1.lt
  obtain ⟨gv, cv2, rfl, hvc, hvm, hvl, hvs⟩ := ownS_form hvo (by simp)
  go_wp2_with fail
  refine body_world (fun W => Below w.heap.size w W ∧ Blk W (w.heap.size + 1) [.slice (some ⟨gv, 0, none⟩) (more.length + 1) cv2, .map (some mc)] ∧ TabOf W (.slice (some ⟨gv, 0, none⟩) (more.length + 1) cv2) (.map (some mc)) (more ++ [s])) ⟨set2_q hq8 (by omega), hB1.set2, tab_set hvo hvc hvm hvs hOz (HMP.out) (by omega) (by omega) (by simp) (by simp) (by rw [List.length_append, HNL.out]; rfl)⟩ ?_
  intro W9 ⟨hq9, k9, hT9⟩
  have c90 := k9.cell 0 rfl
  have c91 := k9.cell 1 rfl
  refine bodyPost_ret (v := .tuple #[.agg #[.slice (some ⟨gv, 0, none⟩) (more.length + 1) cv2, .map (some mc)], u3 NN, i6 0]) (by simp [results, Tryd.results12, go_sem, c90, c91]) rfl ?_
  have hvlo : w.heap.size ≤ gv := by omega
  have hmlo : w.heap.size ≤ mc := by omega
  exact ⟨_, _, rfl, hT9, hq9, vlo_mk hvlo, mlo_mk hmlo⟩

set_option maxRecDepth 100000 in
set_option maxHeartbeats 8000000 in
theorem intern_new_nil (s : B) (w : World) (hs : RowAt 0 knownCells w) (hsl : s.length ≤ 100000) (hg : numT [] s = 0) (hnb : nameB s = true) :
    Calls Tryd.prog 12 #[.agg #[.slice none 0 0, .map none], strV s, .bool false] w fun e w' => ∃ sv' mv', e = .returned (.tuple #[.agg #[sv', mv'], u3 ((11 + ([] : List B).length : Nat) : Int), i6 0]) ∧ TabOf w' sv' mv' (([] : List B) ++ [s]) ∧ Below w.heap.size w w' ∧ VLo w.heap.size sv' ∧ MLo w.heap.size mv' := by
  have HS := Lib.hid hs
  have HNB := Lib.hid hnb
  have HG := Lib.hid hg
  have hkey := key_of s (by unfold maxLen; omega)
  have HT := Lib.hid (show TabOf w (.slice none 0 0) (.map none) [] from Or.inl ⟨rfl, rfl, rfl⟩)
  have hmp := mapOf_put (s := s) mapOf_none (by simp [findL])
  obtain ⟨NN, hNN⟩ : ∃ NN : Int, ((11 + 0 : Nat) : Int) = NN := ⟨_, rfl⟩
  rw [show ((11 + ([] : List B).length : Nat) : Int) = NN from hNN] at hmp
  rw [show ((11 + ([] : List B).length : Nat) : Int) = NN from hNN]
  have HMP := Lib.hid hmp
  have HNN := Lib.hid hNN
  clear hs hnb hg hmp hNN
  go_enter Tryd.func12, Tryd.ntmps12
  go_wp2_with fail
  refine calls_world (fun W => Below w.heap.size w W ∧ Blk W (w.heap.size) [.slice none 0 0, .map none] ∧ Blk W (w.heap.size + 1) [.slice none 0 0, .map none]) ⟨by (repeat' (first | with_reducible exact Below.refl _ _ | with_reducible assumption | with_reducible refine q_alloc ?_ _ | with_reducible refine q_drew ?_ | with_reducible refine q_drewN _ ?_ | with_reducible refine q_setCell ?_ ?_ _ | (left; simp; done) | (right; simp; done) | (right; dsimp only; omega) | (left; dsimp only; omega))), (Blk.new rfl).alloc _, blk_new1 rfl⟩ ?_
  intro W1 ⟨hq1, b1_0, b1_1⟩
  refine (isName_any s _).mono ?_
  rintro e w2 ⟨rfl, rfl⟩
  rw [HNB.out]
  have b1_0c0 := b1_0.cell 0 rfl
  have b1_0f0 := b1_0.froz 0 rfl
  have b1_0c1 := b1_0.cell 1 rfl
  have b1_0f1 := b1_0.froz 1 rfl
  have b1_0z := b1_0.lt
  have b1_1c0 := b1_1.cell 0 rfl
  have b1_1f0 := b1_1.froz 0 rfl
  have b1_1c1 := b1_1.cell 1 rfl
  have b1_1f1 := b1_1.froz 1 rfl
  have b1_1z := b1_1.lt
  go_wp2_with fail
  clear b1_0c0 b1_0f0 b1_0c1 b1_0f1 b1_0z b1_1c0 b1_1f0 b1_1c1 b1_1f1 b1_1z
  refine (find_any (.slice none 0 0) (.map none) [] s _ (HS.out.below hq1) hsl (by simp) (HT.out.below hq1)).mono ?_
  rintro e w2 ⟨rfl, hb⟩
  have hq2 : Below w.heap.size w w2 := q_step hq1 hb
  have b2_0 := b1_0.below hb
  have b2_1 := b1_1.below hb
  clear hb b1_0 b1_1 hq1
  have b2_0c0 := b2_0.cell 0 rfl
  have b2_0f0 := b2_0.froz 0 rfl
  have b2_0c1 := b2_0.cell 1 rfl
  have b2_0f1 := b2_0.froz 1 rfl
  have b2_0z := b2_0.lt
  have b2_1c0 := b2_1.cell 0 rfl
  have b2_1f0 := b2_1.froz 0 rfl
  have b2_1c1 := b2_1.cell 1 rfl
  have b2_1f1 := b2_1.froz 1 rfl
  have b2_1z := b2_1.lt
  rw [HG.out]
  go_wp2_with fail
  clear b2_0c0 b2_0f0 b2_0c1 b2_0f1 b2_0z b2_1c0 b2_1f0 b2_1c1 b2_1f1 b2_1z
  refine (len_any none 0 0 (.map none) _ (by omega)).mono ?_
  rintro e w3 ⟨rfl, hb⟩
  have hq3 : Below w.heap.size w w3 := q_step hq2 hb
  have b3_0 := b2_0.below hb
  have b3_1 := b2_1.below hb
  clear hb b2_0 b2_1 hq2
  have b3_0c0 := b3_0.cell 0 rfl
  have b3_0f0 := b3_0.froz 0 rfl
  have b3_0c1 := b3_0.cell 1 rfl
  have b3_0f1 := b3_0.froz 1 rfl
  have b3_0z := b3_0.lt
  have b3_1c0 := b3_1.cell 0 rfl
  have b3_1f0 := b3_1.froz 0 rfl
  have b3_1c1 := b3_1.cell 1 rfl
  have b3_1f1 := b3_1.froz 1 rfl
  have b3_1z := b3_1.lt
  go_wp2_with fail
  clear b3_0c0 b3_0f0 b3_0c1 b3_0f1 b3_0z b3_1c0 b3_1f0 b3_1c1 b3_1f1 b3_1z
  refine (mclone_nil _).mono ?_
  rintro e w9 ⟨rfl, rfl⟩
  have b3_0c0 := b3_0.cell 0 rfl
  have b3_0f0 := b3_0.froz 0 rfl
  have b3_0c1 := b3_0.cell 1 rfl
  have b3_0f1 := b3_0.froz 1 rfl
  have b3_0z := b3_0.lt
  have b3_1c0 := b3_1.cell 0 rfl
  have b3_1f0 := b3_1.froz 0 rfl
  have b3_1c1 := b3_1.cell 1 rfl
  have b3_1f1 := b3_1.froz 1 rfl
  have b3_1z := b3_1.lt
  have hqm := fun w => eqNilMap none w
  have hmm := @run_makeMap Tryd.prog
  go_wp2_with fail
  clear hqm hmm
  clear b3_0c0 b3_0f0 b3_0c1 b3_0f1 b3_0z b3_1c0 b3_1f0 b3_1c1 b3_1f1 b3_1z
  have hOw : OwnsA (w9.alloc (.map #[] 0)) w9.heap.size 0 (.map []) := World.ownsMap_made _ _ _ _
  have hzz : w.heap.size + 1 < w9.heap.size := b3_1.lt
  refine calls_world (fun W => Below w.heap.size w W ∧ Blk W w.heap.size [.slice none 0 0, .map none] ∧ Blk W (w.heap.size + 1) [.slice none 0 0, .map none] ∧ OwnsA W w9.heap.size 0 (.map [])) ⟨by (repeat' (first | with_reducible exact Below.refl _ _ | with_reducible assumption | with_reducible refine q_alloc ?_ _ | with_reducible refine q_drew ?_ | with_reducible refine q_drewN _ ?_ | with_reducible refine q_setCell ?_ ?_ _ | (left; simp; done) | (right; simp; done) | (right; dsimp only; omega) | (left; dsimp only; omega))), b3_0.alloc _, b3_1.alloc _, hOw⟩ ?_
  intro W4 ⟨hq4, b4_0, b4_1, hO4⟩
  clear hOw hq3 b3_0 b3_1
  generalize w9.heap.size = mc at hzz hO4 ⊢
  have b4_0c0 := b4_0.cell 0 rfl
  have b4_0f0 := b4_0.froz 0 rfl
  have b4_0c1 := b4_0.cell 1 rfl
  have b4_0f1 := b4_0.froz 1 rfl
  have b4_0z := b4_0.lt
  have b4_1c0 := b4_1.cell 0 rfl
  have b4_1f0 := b4_1.froz 0 rfl
  have b4_1c1 := b4_1.cell 1 rfl
  have b4_1f1 := b4_1.froz 1 rfl
  have b4_1z := b4_1.lt
  clear b4_0c0 b4_0f0 b4_0c1 b4_0f1 b4_0z b4_1c0 b4_1f0 b4_1c1 b4_1f1 b4_1z
  refine (len_any none 0 0 (.map none) _ (by omega)).mono ?_
  rintro e w5 ⟨rfl, hb⟩
  have hq5 := q_step hq4 hb
  have b5_0 := b4_0.below hb
  have b5_1 := b4_1.below hb
  have hO5 := ownsA_below hO4 hb
  clear hb hO4 hq4 b4_0 b4_1
  have b5_0c0 := b5_0.cell 0 rfl
  have b5_0f0 := b5_0.froz 0 rfl
  have b5_0c1 := b5_0.cell 1 rfl
  have b5_0f1 := b5_0.froz 1 rfl
  have b5_0z := b5_0.lt
  have b5_1c0 := b5_1.cell 0 rfl
  have b5_1f0 := b5_1.froz 0 rfl
  have b5_1c1 := b5_1.cell 1 rfl
  have b5_1f1 := b5_1.froz 1 rfl
  have b5_1z := b5_1.lt
  have hw1 : IntKind.i64.wrap (((10 + 0 : Nat) : Int) + 1) = ((11 + 0 : Nat) : Int) := by rw [show (((10 + 0 : Nat) : Int) + 1) = ((11 + 0 : Nat) : Int) by omega]; exact IntWalk.i64_in _ (by omega)
  have hw2 : IntKind.u32.wrap ((11 + 0 : Nat) : Int) = ((11 + 0 : Nat) : Int) := by first | (simp only [IntKind.wrap, IntKind.bits, IntKind.signed]; simp; done) | (simp only [IntKind.wrap, IntKind.bits, IntKind.signed]; simp; omega)
  have hpe : plainElem (H := Unit) Tryd.prog 25 (u3 ((11 + 0 : Nat) : Int)) = some (.lit (.int .u32 ((11 + 0 : Nat) : Int)), []) := plainElem_int und_atom (by first | (simp [Lit.wf, IntKind.min, IntKind.max, IntKind.bits, IntKind.signed]; done) | (simp [Lit.wf, IntKind.min, IntKind.max, IntKind.bits, IntKind.signed]; omega))
  rw [HNN.out] at hw1 hw2 hpe
  generalize ((10 + 0 : Nat) : Int) = MM at hw1 ⊢
  go_wp2_with (at_mapUpdate; refine wpList_mapUpdate_own _ rfl _ _ _ 28 rfl 9 25 (string_keyed und_str) und_amap _ mc 0 (DataW.map [] : DataW Unit) rfl hO5 (by unfold maxLen; omega) _ _ (.string s) rfl rfl hkey _ [] hpe ?_)
  intro w6 hO6 hgr
  have hq6 : Below w.heap.size w w6 := hq5.grown hgr hq5.size (fun i hi => by cases hi; omega)
  clear b5_0c0 b5_0f0 b5_0c1 b5_0f1 b5_0z b5_1c0 b5_1f0 b5_1c1 b5_1f1 b5_1z hw1 hw2 hpe hkey
  have b6_0 := b5_0.grown hgr (by omega)
  have b6_1 := b5_1.grown hgr (by omega)
  clear hgr hO5 hq5 b5_0 b5_1
  have b6_0c0 := b6_0.cell 0 rfl
  have b6_0f0 := b6_0.froz 0 rfl
  have b6_0c1 := b6_0.cell 1 rfl
  have b6_0f1 := b6_0.froz 1 rfl
  have b6_0z := b6_0.lt
  have b6_1c0 := b6_1.cell 0 rfl
  have b6_1f0 := b6_1.froz 0 rfl
  have b6_1c1 := b6_1.cell 1 rfl
  have b6_1f1 := b6_1.froz 1 rfl
  have b6_1z := b6_1.lt
  go_wp2_with fail
  clear b6_0c0 b6_0f0 b6_0c1 b6_0f1 b6_0z b6_1c0 b6_1f0 b6_1c1 b6_1f1 b6_1z
  refine (clone_nil 0 _).mono ?_
  rintro e w7 ⟨cv, rfl, hcv, hb⟩
  have hmw : mc < w6.heap.size := hO6.lt
  have hq7 := q_step hq6 hb
  have b7_0 := b6_0.below hb
  have b7_1 := b6_1.below hb
  have hO7 := ownsA_below hO6 hb
  have hws := hb.size
  clear hb hO6 hq6 b6_0 b6_1
  generalize hBB : w6.heap.size = BB at hcv hmw hws
  clear hBB
  have b7_0c0 := b7_0.cell 0 rfl
  have b7_0f0 := b7_0.froz 0 rfl
  have b7_0c1 := b7_0.cell 1 rfl
  have b7_0f1 := b7_0.froz 1 rfl
  have b7_0z := b7_0.lt
  have b7_1c0 := b7_1.cell 0 rfl
  have b7_1f0 := b7_1.froz 0 rfl
  have b7_1c1 := b7_1.cell 1 rfl
  have b7_1f1 := b7_1.froz 1 rfl
  have b7_1z := b7_1.lt
  obtain ⟨i0, hi, hz0, hz1, hz2⟩ := info_parts info_str
  go_wp2_with (at_builtin; refine wpList_append_own _ rfl _ _ 22 rfl BB 9 i0 (.string ⟨#[]⟩) 1 16 und_strs hi hz0 hz1 hz2 rfl (by decide) _ _ _ rfl (hcv.alloc _) ⟨w7.heap.size, 0, none⟩ 1 1 [strV s] rfl rfl strV_cells strV_one ?c3 ?c4 ?c5 ?_)
  case c3 => unfold maxLen; simp
  case c4 => simp
  case c5 => simp; omega
  intro vv w8 hvv hgr _
  have hlt := fun g hg => hcv.lt g hg
  have hq8 : Below w.heap.size w w8 := (q_alloc hq7 _).grown hgr (by have := hq7.size; simp; omega) (fun g hg => by have := hlt g hg; omega)
  clear b7_0c0 b7_0f0 b7_0c1 b7_0f1 b7_0z b7_1c0 b7_1f0 b7_1c1 b7_1f1 b7_1z
  have hOz : OwnsA w8 mc _ _ := (hO7.alloc _).kept hgr (by intro e; have := hlt mc e.symm; omega)
  have hB1 : Blk w8 (w.heap.size + 1) [.slice none 0 0, .map none] := by
    have hb1 := b7_1.alloc (.cells #[strV s] 9)
    have hbk : w8.heap[w.heap.size + 1]? = _ := hgr.block (w.heap.size + 1) hb1.1 (by intro e; have := hlt (w.heap.size + 1) e.symm; omega)
    refine ⟨Nat.lt_of_lt_of_le hb1.1 hgr.size, fun i v hi => ⟨(World.cell?_of_block (a := ⟨w.heap.size + 1, i, none⟩) hbk).trans (hb1.2 i v hi).1, (World.frozen?_of_block (a := ⟨w.heap.size + 1, i, none⟩) hbk).trans (hb1.2 i v hi).2⟩⟩
  have hvo : OwnS w8 BB vv (([] : List B) ++ [s]) := by
    unfold OwnS
    rw [List.map_append, List.length_append]
    exact hvv
  clear hvv hgr hcv hO7 b7_0 b7_1 hq7
  have hB1c0 := hB1.cell 0 rfl
  have hB1c1 := hB1.cell 1 rfl
  have hB1f0 := hB1.froz 0 rfl
  have hB1f1 := hB1.froz 1 rfl
  have hB1z := hB1.lt
  obtain ⟨gv, cv2, rfl, hvc, hvm, hvl, hvs⟩ := ownS_form hvo (by simp)
  go_wp2_with fail
  refine body_world (fun W => Below w.heap.size w W ∧ Blk W (w.heap.size + 1) [.slice (some ⟨gv, 0, none⟩) 1 cv2, .map (some mc)] ∧ TabOf W (.slice (some ⟨gv, 0, none⟩) 1 cv2) (.map (some mc)) (([] : List B) ++ [s])) ⟨set2_q hq8 (by omega), hB1.set2, tab_set hvo hvc hvm hvs hOz (HMP.out) (by omega) (by omega) (by simp) (by simp) (by simp)⟩ ?_
  intro W9 ⟨hq9, k9, hT9⟩
  have c90 := k9.cell 0 rfl
  have c91 := k9.cell 1 rfl
  refine bodyPost_ret (v := .tuple #[.agg #[.slice (some ⟨gv, 0, none⟩) 1 cv2, .map (some mc)], u3 NN, i6 0]) (by simp [results, Tryd.results12, go_sem, c90, c91]) rfl ?_
  have hvlo : w.heap.size ≤ gv := by omega
  have hmlo : w.heap.size ≤ mc := by omega
  exact ⟨_, _, rfl, hT9, hq9, vlo_mk hvlo, mlo_mk hmlo⟩
end Go.Proofs.YtdkdpjlkjamemaaDoor
