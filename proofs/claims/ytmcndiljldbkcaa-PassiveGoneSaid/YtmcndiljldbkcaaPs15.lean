/- Layer 38: Add to a full table. -/
import Derived.Test.YtmcndiljldbkcaaPs6
namespace Go.Proofs.Ytmcndiljldbkcaa
open Go Go.RowKit
set_option linter.unusedSimpArgs false
set_option linter.unusedVariables false
set_option maxRecDepth 100000 in
set_option maxHeartbeats 16000000 in
theorem add_full (g : G) (hg : RightG g) (v : Value) (gs : List G) (w : World) (hv : TabG w v gs) (h256 : 256 ≤ gs.length) (hl : gs.length ≤ 1000) (hc : gs.any (conflB g) = false) (hk : gs.any (likeB g) = false) :
    Calls Try.prog 21 #[.agg #[v], gV g] w fun e w' => e = .returned (.tuple #[.agg #[v], i6 12]) ∧ Below w.heap.size w w' := by
  obtain ⟨i0, hi, hz0, hz1, hz2⟩ := info_parts info_grab
  obtain ⟨A, cap, rfl, _⟩ := hv.is
  have HG := Lib.hid hg
  have HT := Lib.hid hv
  have HC := Lib.hid hc
  have HK := Lib.hid hk
  have hl1 : gs.length ≤ 1000 := hl
  clear hg hv hc hk
  obtain ⟨n, hn⟩ : ∃ n, gs.length = n := ⟨_, rfl⟩
  rw [hn] at HT hl h256
  have HN := Lib.hid hn
  rw [hn]
  clear hn
  go_enter Try.func21, Try.ntmps21
  go_wp2_with fail
  refine calls_world (fun W => Below w.heap.size w W ∧ Blk W w.heap.size [.slice A n cap] ∧ Blk W (w.heap.size + 1) (gL g) ∧ Blk W (w.heap.size + 1 + 1) [.slice none 0 0]) ⟨by (repeat' (first | with_reducible exact Below.refl _ _ | with_reducible assumption | with_reducible refine q_alloc ?_ _ | with_reducible refine q_drew ?_ | with_reducible refine q_drewN _ ?_ | with_reducible refine q_setCell ?_ ?_ _ | (left; simp; done) | (right; simp; done) | (right; dsimp only; omega) | (left; dsimp only; omega))), ((Blk.new rfl).alloc _).alloc _, (blk_new1 rfl).alloc _, blk_new2 rfl⟩ ?_
  intro W1 ⟨hq1, b1, b2, b3⟩
  refine (check_ok g _ HG.out).mono ?_
  rintro e w2 ⟨rfl, hb⟩
  have hq2 := q_step hq1 hb
  have d0 := (b1.below hb).cell 0 rfl
  have C1 := Lib.hid (b1.below hb)
  have C2 := Lib.hid (b2.below hb)
  have C3 := Lib.hid (b3.below hb)
  clear b1 b2 b3 hq1 hb
  go_wp2_with fail
  refine (contains_a (w.heap.size + 1) (conflB g) gs _ _ ((HT.out.below hq2).is) hl1 (fun W x hW => confl_any _ g x W (C2.out.below hW))).mono ?_
  rintro e w3 ⟨rfl, hb⟩
  rw [HC.out]
  have hq3 := q_step hq2 hb
  replace C1 := Lib.hid (C1.out.below hb)
  replace C2 := Lib.hid (C2.out.below hb)
  replace C3 := Lib.hid (C3.out.below hb)
  clear d0
  have d0 := C1.out.cell 0 rfl
  clear hb hq2
  go_wp2_with fail
  refine (index_b (w.heap.size + 1) (likeB g) gs _ _ ((HT.out.below hq3).is) hl1 (fun W x hW => like_any _ g x W (C2.out.below hW))).mono ?_
  rintro e w4 ⟨r, rfl, hr, hb⟩
  have hq4 := q_step hq3 hb
  replace C1 := Lib.hid (C1.out.below hb)
  replace C2 := Lib.hid (C2.out.below hb)
  replace C3 := Lib.hid (C3.out.below hb)
  clear d0
  have d0 := C1.out.cell 0 rfl
  clear hb hq3
  obtain rfl := idx_none hr HK.out
  clear hr
  have C4z := C3.out.lt
  go_wp2_with fail
  refine (clone_any _ gs _ (HT.out.below hq4) hl1).mono ?_
  rintro e w5 ⟨v5, rfl, ho5, hb⟩
  have hq5 := q_step hq4 hb
  replace C1 := Lib.hid (C1.out.below hb)
  replace C2 := Lib.hid (C2.out.below hb)
  replace C3 := Lib.hid (C3.out.below hb)
  have ho5' : OwnG w5 (w.heap.size + 3) v5 gs := own_le ho5 (by have := (C3.out).lt; have := hb.size; have := C4z; omega)
  clear d0 hb hq4 ho5
  obtain ⟨a5, c5, rfl⟩ := own_sl ho5'
  have HO5 := Lib.hid ho5'
  rw [HN.out] at HO5 ⊢
  clear ho5'
  have e1 : (256 : Int) ≤ (n : Int) := by omega
  have c3 := C3.out
  have d0 := C1.out.cell 0 rfl
  have e0 := c3.cell 0 rfl
  have f0 := c3.froz 0 rfl
  have hlt := c3.lt
  go_wp2_with fail
  refine body_world (fun W => Below w.heap.size w W ∧ Blk W (w.heap.size + 1 + 1) [.slice A n cap]) ⟨by (repeat' (first | with_reducible exact Below.refl _ _ | with_reducible assumption | with_reducible refine q_alloc ?_ _ | with_reducible refine q_drew ?_ | with_reducible refine q_drewN _ ?_ | with_reducible refine q_setCell ?_ ?_ _ | (left; simp; done) | (right; simp; done) | (right; dsimp only; omega) | (left; dsimp only; omega))), c3.set 0 _ (by simp) rfl⟩ ?_
  intro W9 ⟨hq9, b9⟩
  clear d0 e0 f0 c3
  have d0 := b9.cell 0 rfl
  exact bodyPost_ret (v := .tuple #[.agg #[.slice A n cap], i6 12]) (by simp [results, Try.results21, go_sem, d0]) rfl ⟨rfl, hq9⟩
end Go.Proofs.Ytmcndiljldbkcaa
