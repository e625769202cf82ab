/- Layer 42: awake. -/
import Derived.Test.YtlaejolgjchfcaaPc5
namespace Go.Proofs.Ytlaejolgjchfcaa
open Go Go.RowKit
set_option linter.unusedSimpArgs false
set_option linter.unusedVariables false
theorem isI_lit {w : World} {b n : Nat} {us : List Int} (h : Blk w b (us.map i6)) (hn : us.length = n) (h0 : 0 < n) (hm : n ≤ 1000) : IsI w (.slice (some ⟨b, 0, none⟩) n n) us := by
  subst hn
  refine Or.inr ⟨b, 0, us.length, rfl, h0, Nat.le_refl _, by unfold maxLen; omega, h.lt, fun k u hk => ?_⟩
  rw [Nat.zero_add]
  exact h.cell k (by rw [List.getElem?_map, hk]; rfl)
theorem numsB_nil : numsB [] = true := rfl
set_option maxRecDepth 100000 in
set_option maxHeartbeats 8000000 in
theorem awake42 (w : World) : Calls Try.prog 10 #[] w fun e w' => e = .returned (.bool true) ∧ Below w.heap.size w w' := by
  go_enter Try.func10, Try.ntmps10
  go_wp2_with fail
  refine (new_any _ [1, 2, 3] 2 _ (isI_lit (Blk.new rfl) rfl (by decide) (by decide)) (by decide) (by decide) (by decide)).mono ?_
  rintro e w1 ⟨h, hb⟩
  rcases h with ⟨hx, _⟩ | ⟨_, dv, rfl, hdv⟩
  · exact absurd hx (by decide)
  rw [show cntP ([1, 2, 3] : List Int).length 2 = 4 by decide]
  obtain ⟨da, dc, rfl, _⟩ := isI_form hdv
  have hq1 : Below w.heap.size w w1 := q_step (by (repeat' (first | with_reducible exact Below.refl _ _ | with_reducible assumption | with_reducible refine q_alloc ?_ _ | with_reducible refine q_drew ?_ | with_reducible refine q_drewN _ ?_ | with_reducible refine q_setCell ?_ ?_ _ | (left; simp; done) | (right; simp; done) | (right; dsimp only; omega) | (left; dsimp only; omega)))) hb
  clear hb
  have hlen : ([1, 2, 3] : List Int).length = 3 := rfl
  rw [hlen]
  go_wp2_with fail
  refine calls_world (fun W => Below w.heap.size w W ∧ Blk W w1.heap.size [.slice da 3 dc, i6 2, i6 0, i6 4] ∧ IsI W (.slice da 3 dc) [1, 2, 3]) ⟨by (repeat' (first | with_reducible exact Below.refl _ _ | with_reducible assumption | with_reducible refine q_alloc ?_ _ | with_reducible refine q_drew ?_ | with_reducible refine q_drewN _ ?_ | with_reducible refine q_setCell ?_ ?_ _ | (left; simp; done) | (right; simp; done) | (right; dsimp only; omega) | (left; dsimp only; omega))), Blk.new rfl, hdv.below (q_alloc (Below.refl _ _) _)⟩ ?_
  intro W1 ⟨hq, hg, hdv1⟩
  clear hq1 hdv
  generalize w1.heap.size = G at hg ⊢
  refine (put_first da dc [1, 2, 3] 2 0 4 _ hdv1 (by decide) (by decide)).mono ?_
  rintro e w2 ⟨rfl, hb⟩
  rw [hlen]
  replace hq := q_step hq hb
  replace hg := hg.below hb
  replace hdv1 := hdv1.below hb
  clear hb
  have c0 := hg.cell 0 rfl
  have c1 := hg.cell 1 rfl
  have c2 := hg.cell 2 rfl
  have c3 := hg.cell 3 rfl
  have zg := hg.lt
  go_wp2_with fail
  refine calls_world (fun W => Below w.heap.size w W ∧ Blk W G [.slice da 3 dc, i6 2, i6 0, i6 4] ∧ Blk W w2.heap.size [.bool true, i6 3, .slice none 0 0, .bool false] ∧ IsI W (.slice da 3 dc) [1, 2, 3]) ⟨by (repeat' (first | with_reducible exact Below.refl _ _ | with_reducible assumption | with_reducible refine q_alloc ?_ _ | with_reducible refine q_drew ?_ | with_reducible refine q_drewN _ ?_ | with_reducible refine q_setCell ?_ ?_ _ | (left; simp; done) | (right; simp; done) | (right; dsimp only; omega) | (left; dsimp only; omega))), hg.alloc _, Blk.new rfl, hdv1.below (q_alloc (Below.refl _ _) _)⟩ ?_
  intro W2 ⟨hq2, hg2, hp2, hdv2⟩
  clear hq hg hdv1 c0 c1 c2 c3 zg
  generalize w2.heap.size = PB at hp2 ⊢
  refine (gone_any da 3 dc 2 0 4 _ (by decide) (by decide)).mono ?_
  rintro e w3 ⟨rfl, hb⟩
  rw [show goneA 0 4 = 1 by decide]
  have J : Below W2.heap.size W2 w3 := hb
  clear hb
  go_wp2_with fail
  refine (gone_any da 3 dc 2 1 4 _ (by decide) (by decide)).mono ?_
  rintro e w4 ⟨rfl, hb⟩
  rw [show goneA 1 4 = 2 by decide]
  replace J := q_step J hb
  clear hb
  go_wp2_with fail
  refine (put_mid da dc [1, 2, 3] 2 2 4 _ (hdv2.below J) (by decide) (by decide) (by decide) (by decide) (by decide) (by decide) 2 3 (by decide) (by decide) (by decide)).mono ?_
  rintro e w5 ⟨qv, rfl, hqv, hb⟩
  replace J := q_step J hb
  clear hb
  have hps : (([1, 2, 3] : List Int).drop 2).take 2 = [3] := by decide
  rw [hps] at hqv
  obtain ⟨qa, qc, rfl, hqf⟩ := isI_form hqv
  have hqn : qa = none → qc = 0 := by
    obtain ⟨b, off, rfl, _⟩ := hqf (by decide)
    intro h; cases h
  have hlen1 : ([3] : List Int).length = 1 := rfl
  rw [hlen1]
  rw [hlen1] at hqv
  clear hqf
  have p0 := cell_below J (hp2.cell 0 rfl)
  have p1 := cell_below J (hp2.cell 1 rfl)
  have p2 := cell_below J (hp2.cell 2 rfl)
  have p3 := cell_below J (hp2.cell 3 rfl)
  have zp := block_lt_of_cell p0
  dsimp only at zp
  go_wp2_with fail
  refine calls_world (fun W => Below w.heap.size w W ∧ Blk W G [.slice da 3 dc, i6 2, i6 0, i6 4] ∧ Blk W w5.heap.size [.bool true, i6 0, .slice qa 1 qc, .bool false] ∧ IsI W (.slice qa 1 qc) [3]) ⟨q_alloc (q_step hq2 J) _, (hg2.below J).alloc _, Blk.new rfl, hqv.below (q_alloc (Below.refl _ _) _)⟩ ?_
  intro W3 ⟨hq3, hg3, hr3, hqv3⟩
  clear hq2 hg2 hp2 hdv2 hqv J p0 p1 p2 p3 zp
  generalize w5.heap.size = QB at hr3 ⊢
  refine (code_any true 3 none 0 false [] _ (Or.inl ⟨_, _, rfl, rfl⟩) (fun _ => rfl) (by decide)).mono ?_
  rintro e w6 ⟨v1, rfl, hv1, hb⟩
  rw [show codeL (kindZ true 3 ([] : List Int).length false (numsB [])) 3 [] = [1, 3] by decide] at hv1
  have J : Below W3.heap.size W3 w6 := hb
  clear hb
  go_wp2_with fail
  refine (same_eq _ _ [1, 3] _ (hv1.below (q_alloc (Below.refl _ _) _)) (isI_lit (Blk.new rfl) rfl (by decide) (by decide)) (by decide)).mono ?_
  rintro e w7 ⟨rfl, hb⟩
  replace J := q_step (q_alloc J _) hb
  clear hb hv1
  have p0 := cell_below J (hr3.cell 0 rfl)
  have p1 := cell_below J (hr3.cell 1 rfl)
  have p2 := cell_below J (hr3.cell 2 rfl)
  have p3 := cell_below J (hr3.cell 3 rfl)
  go_wp2_with fail
  refine (code_any true 0 qa qc false [3] _ (hqv3.below J) hqn (by decide)).mono ?_
  rintro e w8 ⟨v2, rfl, hv2, hb⟩
  rw [show codeL (kindZ true 0 ([3] : List Int).length false (numsB [3])) 0 [3] = [2, 0, 3] by decide] at hv2
  replace J := q_step J hb
  clear hb p0 p1 p2 p3
  go_wp2_with fail
  refine (same_eq _ _ [2, 0, 3] _ (hv2.below (q_alloc (Below.refl _ _) _)) (isI_lit (Blk.new rfl) rfl (by decide) (by decide)) (by decide)).mono ?_
  rintro e w9 ⟨rfl, hb⟩
  replace J := q_step (q_alloc J _) hb
  clear hb hv2
  have p0 := cell_below J (hg3.cell 0 rfl)
  have p1 := cell_below J (hg3.cell 1 rfl)
  have p2 := cell_below J (hg3.cell 2 rfl)
  have p3 := cell_below J (hg3.cell 3 rfl)
  go_wp2_with fail
  refine (gone_any da 3 dc 2 0 4 _ (by decide) (by decide)).mono ?_
  rintro e x0 ⟨rfl, hb⟩
  rw [show goneA 0 4 = 1 by decide]
  replace J := q_step J hb
  clear hb
  go_wp2_with fail
  refine (gone_any da 3 dc 2 1 4 _ (by decide) (by decide)).mono ?_
  rintro e x1 ⟨rfl, hb⟩
  rw [show goneA 1 4 = 2 by decide]
  replace J := q_step J hb
  clear hb
  go_wp2_with fail
  refine (gone_any da 3 dc 2 2 4 _ (by decide) (by decide)).mono ?_
  rintro e x2 ⟨rfl, hb⟩
  rw [show goneA 2 4 = 3 by decide]
  replace J := q_step J hb
  clear hb
  go_wp2_with fail
  refine (gone_any da 3 dc 2 3 4 _ (by decide) (by decide)).mono ?_
  rintro e x3 ⟨rfl, hb⟩
  rw [show goneA 3 4 = 4 by decide]
  replace J := q_step J hb
  clear hb
  go_wp2_with fail
  refine (done_any (.slice da 3 dc) 2 4 4 _).mono ?_
  rintro e x9 ⟨rfl, hb⟩
  rw [show decide ((4 : Int) ≤ 4) = true by decide]
  replace J := q_step J hb
  have hqe := q_step hq3 J
  go_wp2_with fail
  go_returns
  exact ⟨by first | rfl | (simp; done), hqe⟩
end Go.Proofs.Ytlaejolgjchfcaa
