/- Layer 42: the document's take with a part. -/
import Derived.Test.YtlaejolgjchfcaaPc23
namespace Go.Proofs.Ytlaejolgjchfcaa
open Go Go.RowKit Go.Maps
set_option linter.unusedSimpArgs false
set_option linter.unusedVariables false
set_option maxRecDepth 100000 in
set_option maxHeartbeats 8000000 in
theorem rgot_part (s tt : Int) (ka : Option Addr) (kn kc : Nat) (us : List Int) (a : Bool) (t : Int) (pa : Option Addr) (pn pc : Nat) (l : Bool) (ds : List Int) (w : World) (hk : IsI w (.slice ka kn kc) us) (hkn : us.length = kn) (hkno : ka = none → kc = 0) (hp : IsI w (.slice pa pn pc) ds) (hpn : ds.length = pn) (hpno : pa = none → pc = 0) (h1 : kn ≤ 100000) (h2 : pn ≤ 100000) (hZ : kindZ a t ds.length l (numsB ds) = 2) (hs : s = 1) (h0 : 0 < pn) (hl : ¬ tt < (kn : Int) + pn) :
    Calls Try.prog 20 #[tV s tt (.slice ka kn kc), pV a t (.slice pa pn pc) l] w (RefIs (.slice ka kn kc) us (.slice pa pn pc) ds (0, 1, tt, us ++ ds) w) := by
  subst hs
  obtain ⟨pb, poff, epa, hpl⟩ : ∃ pb poff, pa = some ⟨pb, poff, none⟩ ∧ LayI w pb poff ds := by
    rcases hp with ⟨_, _, e, h1⟩ | ⟨b, off, cap', e, h1, h2, h3, h4, h5⟩
    · rw [h1] at hpn; simp at hpn; omega
    · simp only [Value.slice.injEq] at e
      exact ⟨b, off, e.1, h5⟩
  subst epa
  have hcs : ∀ j u, (ds.map i6)[j]? = some u → w.cell? ((⟨pb, poff, none⟩ : Addr).add j) = some u := by
    intro j u hj
    rw [List.getElem?_map, Option.map_eq_some_iff] at hj
    obtain ⟨x, hx, rfl⟩ := hj
    rw [addr_add]
    exact hpl j x hx
  have HCS := Lib.hid hcs
  have HON : Hid (∀ u ∈ ds.map i6, u.oneCell' = true) := Lib.hid (by
    intro u hu
    obtain ⟨x, _, rfl⟩ := List.mem_map.1 hu
    rfl)
  have HLM : Hid ((ds.map i6).length = pn * 1) := Lib.hid (by rw [List.length_map]; omega)
  have HMA : Hid ((us ++ ds).map i6 = us.map i6 ++ ds.map i6) := Lib.hid (by simp)
  have HLA : Hid ((us ++ ds).length = kn + pn) := Lib.hid (by rw [List.length_append]; omega)
  clear hcs hpl
  have HK := Lib.hid hk
  have HKN := Lib.hid hkn
  have HKO := Lib.hid hkno
  have HP := Lib.hid hp
  have HPN := Lib.hid hpn
  have HPO := Lib.hid hpno
  have HZ := Lib.hid hZ
  clear hk hkn hkno hp hpn hpno hZ
  obtain ⟨i0, hi, hz0, hz1, hz2⟩ := info_parts info_i64
  go_enter Try.func20, Try.ntmps20
  go_wp2_with fail
  refine calls_world (fun W => Below w.heap.size w W ∧ Blk W w.heap.size [i6 1, i6 tt, .slice ka kn kc] ∧ Blk W (w.heap.size + 1) [.bool a, i6 t, .slice (some ⟨pb, poff, none⟩) pn pc, .bool l] ∧ Blk W (w.heap.size + 1 + 1) [i6 0, i6 0, .slice none 0 0]) ⟨by (repeat' (first | with_reducible exact Below.refl _ _ | with_reducible assumption | with_reducible refine q_alloc ?_ _ | with_reducible refine q_drew ?_ | with_reducible refine q_drewN _ ?_ | with_reducible refine q_setCell ?_ ?_ _ | (left; simp; done) | (right; simp; done) | (right; dsimp only; omega) | (left; dsimp only; omega))), ((Blk.new rfl).alloc _).alloc _, (blk_new1 rfl).alloc _, blk_new2 rfl⟩ ?_
  intro W1 ⟨hq1, b1, b2, b3⟩
  refine (rkind_any a t (.slice (some ⟨pb, poff, none⟩) pn pc) l ds _ (HP.out.below hq1) (by rw [HPN.out]; omega)).mono ?_
  rintro e w2 ⟨rfl, hb⟩
  rw [kind_meet, HZ.out]
  have hq2 := q_step hq1 hb
  replace b1 := b1.below hb
  replace b2 := b2.below hb
  replace b3 := b3.below hb
  clear hb hq1
  have d0 := b1.cell 0 rfl
  have d1 := b1.cell 1 rfl
  have d2 := b1.cell 2 rfl
  have p0 := b2.cell 0 rfl
  have p1 := b2.cell 1 rfl
  have p2 := b2.cell 2 rfl
  have p3 := b2.cell 3 rfl
  have e0 := b3.cell 0 rfl
  have e1 := b3.cell 1 rfl
  have e2 := b3.cell 2 rfl
  have f0 := b3.froz 0 rfl
  have f1 := b3.froz 1 rfl
  have f2 := b3.froz 2 rfl
  have z3 := b3.lt
  have HB1 := Lib.hid b1
  have HB2 := Lib.hid b2
  have HB3 := Lib.hid b3
  have hzr := z3
  have HB3V := Lib.hid b3
  have HB1V := Lib.hid b1
  have HQ2 := Lib.hid hq2
  have HIK := Lib.hid (isI_ints (HK.out.below hq2))
  have HNIL := Lib.hid (World.ownsRow_nil w2 w2.heap.size 2 1)
  clear b1 b2 b3
  go_wp2_with (first | (at_builtin; refine wpList_append_ints rfl _ _ 22 rfl w2.heap.size 2 i0 (i6 0) 8 .i64 und_i64s hi hz0 hz1 hz2 rfl (.slice none 0 0) 0 [] rfl HNIL.out ka kn kc us rfl HIK.out HKN.out HKO.out ?c1 ?c2 ?c3 ?_))
  all_goals first | (unfold maxLen; have := HKN.out; omega) | (have := HKN.out; omega) | (exact Nat.le_refl _) | skip
  intro v1 w3 hown hgr
  try intro _
  have hown1 : w3.ownsRow w2.heap.size 2 1 v1 kn (us.map i6) := by first | exact hown | (rw [HKN.out] at hown; exact hown) | (simp only [HKN.out, Nat.zero_add, List.nil_append] at hown; exact hown)
  have hq23 : Below w2.heap.size w2 w3 := (Below.refl _ _).grown hgr (Nat.le_refl _) (fun j hj => by simp [Value.ownBlock] at hj)
  obtain ⟨va, vc, rfl⟩ : ∃ va vc, v1 = .slice va kn vc := by
    rcases Joins.ownsRow_forms hown1 with ⟨rfl, h0⟩ | ⟨g, c, rfl⟩
    · exact ⟨none, 0, by rw [h0]⟩
    · exact ⟨_, _, rfl⟩
  have how : ∀ W : World, W.heap = w3.heap → W.ownsRow w2.heap.size 2 1 (.slice va kn vc) kn (us.map i6) := fun W hW => by
    have h := hown1
    unfold World.ownsRow at h ⊢
    rw [hW]
    exact h
  have HO1 := Lib.hid how
  have hz23 : w2.heap.size ≤ w3.heap.size := hq23.size
  have hq3 := q_step hq2 hq23
  have HQ3 := Lib.hid hq3
  have HQ23 := Lib.hid hq23
  have b1 := HB1.out.below hq23
  have b2 := HB2.out.below hq23
  have b3 := HB3.out.below hq23
  clear d0 d1 d2 p0 p1 p2 p3 e0 e1 e2 f0 f1 f2 z3 hown hgr hown1 how HB1 HB2 HB3 HIK HNIL
  have d1 := b1.cell 1 rfl
  have p2 := b2.cell 2 rfl
  have HB3 := Lib.hid b3
  have z3 := b3.lt
  have hzw : w.heap.size ≤ w2.heap.size := hq2.size
  clear b1 b2 b3 hq23 hq3 hq2
  go_upto_region 18 with fail
  go_region_law (first
    | (refine step_append_own rfl _ _ 22 rfl w2.heap.size 2 i0 (i6 0) 1 8 und_i64s hi hz0 hz1 hz2 rfl (by decide) _ kn (us.map i6) rfl (HO1.out _ rfl) ⟨pb, poff, none⟩ pn pc (ds.map i6) rfl HLM.out (fun j u hj => cell_below (by first | exact HQ3.out | exact HQ3.out.drew) (HCS.out j u hj)) HON.out (by unfold maxLen; omega) (by omega) (by first | exact hz23 | simpa using hz23) ?_; intro vv wv hvv hgr; obtain ⟨gg, cc, rfl⟩ := Joins.ownsRow_form hvv (by omega); have hqv : Below w2.heap.size w2 wv := (show Below w2.heap.size w2 w3.drew from HQ23.out.drew).grown hgr (by first | exact hz23 | simpa using hz23) (fun j hj => ((HO1.out w3 rfl).lt j hj).1); have hgg := (hvv.lt gg rfl).1; have HVV : Hid (IsI wv (.slice (some ⟨gg, 0, none⟩) (kn + pn) cc) (us ++ ds)) := Lib.hid (by rw [← HMA.out, ← HLA.out] at hvv; rw [← HLA.out]; exact ownL_is hvv); have b3v := HB3V.out.below hqv; have e0 := b3v.cell 0 rfl; have e1 := b3v.cell 1 rfl; have e2 := b3v.cell 2 rfl; have f0 := b3v.froz 0 rfl; have f1 := b3v.froz 1 rfl; have f2 := b3v.froz 2 rfl; have zz := b3v.lt; have hb1v := HB1V.out.below hqv; have d1 := hb1v.cell 1 rfl; have HB3W := Lib.hid b3v; have HQV := Lib.hid hqv; clear hvv hgr b3v hb1v))
  all_goals
    go_wp2_with fail
    refine body_world (fun W => Below w.heap.size w W ∧ Blk W (w.heap.size + 1 + 1) [i6 1, i6 tt, .slice (some ⟨gg, 0, none⟩) (kn + pn) cc] ∧ IsI W (.slice (some ⟨gg, 0, none⟩) (kn + pn) cc) (us ++ ds)) ⟨q_setCell (q_setCell (q_setCell (q_step HQ2.out HQV.out) (Or.inr (by dsimp only; omega)) _) (Or.inr (by dsimp only; omega)) _) (Or.inr (by dsimp only; omega)) _, ((HB3W.out.set 0 _ (by simp) rfl).set 1 _ (by simp) rfl).set 2 _ (by simp) rfl, isI_set (isI_set (isI_set HVV.out (by dsimp only; omega)) (by dsimp only; omega)) (by dsimp only; omega)⟩ ?_
    intro W9 ⟨hq9, b9, i9⟩
    clear e0 e1 e2 f0 f1 f2
    have e0 := b9.cell 0 rfl
    have e1 := b9.cell 1 rfl
    have e2 := b9.cell 2 rfl
    exact bodyPost_ret (v := .tuple #[tV 1 tt (.slice (some ⟨gg, 0, none⟩) (kn + pn) cc), i6 0]) (by simp [results, Try.results20, go_sem, e0, e1, e2]) rfl ⟨_, _, _, rfl, HLA.out.symm, i9, (fun h => by cases h), fun r hr _ _ => Or.inr ⟨gg, 0, _, _, rfl, by omega⟩, hq9⟩
end Go.Proofs.Ytlaejolgjchfcaa
