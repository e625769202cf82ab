/- Layer 38: the document's Drop. -/
import Derived.Test.YtmcndiljldbkcaaPs24
namespace Go.Proofs.Ytmcndiljldbkcaa
open Go Go.RowKit Go.Maps
set_option linter.unusedSimpArgs false
set_option linter.unusedVariables false
set_option maxRecDepth 100000 in
set_option maxHeartbeats 16000000 in
theorem rdrop_any (v : Value) (gs : List G) (cl id : Int) (bu : Bool) (co mo : Int) (w : World) (hv : IsG w v gs) (hl : gs.length ≤ 1000) :
    Calls Try.prog 41 #[v, i6 cl, u3 id, .bool bu, i6 co, i6 mo] w fun e w' => ∃ v', e = .returned v' ∧ OwnH w' w.heap.size v' (leftL (dropB cl id bu co mo) gs) ∧ Below w.heap.size w w' := by
  obtain ⟨i0, hi, hz0, hz1, hz2⟩ := info_parts info_rgrab
  obtain ⟨A, cap, rfl, hf⟩ := hv
  have HF := Lib.hid hf
  clear hf
  obtain ⟨n, hn⟩ : ∃ n, gs.length = n := ⟨_, rfl⟩
  rw [hn] at HF hl ⊢
  have HN := Lib.hid hn
  clear hn
  go_enter Try.func41, Try.ntmps41
  go_wp2_with fail
  go_loopw [13, 14] (fun v i wr => ∃ k : Nat, k ≤ n ∧ i = .int .i64 k ∧ OwnH wr w.heap.size v (leftL (dropB cl id bu co mo) (gs.take k)) ∧ Below w.heap.size w wr)
    (fun _ i _ => n - (intOf i).toNat)
  case atStart => exact ⟨0, Nat.zero_le _, rfl, World.ownsRow_nil _ _ _ _, Below.refl _ _⟩
  case round =>
    obtain ⟨k, hk, rfl, hown, hq⟩ := hrel
    have HOWN := Lib.hid hown
    have HQ := Lib.hid hq
    clear hown hq
    by_cases hlt : k < n
    · obtain ⟨b, off, rfl, hb, hlay⟩ := HF.out (by omega)
      obtain ⟨x, hx⟩ : ∃ x, gs[k]? = some x := ⟨_, List.getElem?_eq_getElem (by rw [HN.out]; exact hlt)⟩
      have hki : (k : Int) < (n : Int) := by omega
      have hlx := fun j u hj => cell_below HQ.out (hlay k x hx j u hj)
      have d0 := hlx 0 _ rfl
      rw [Nat.add_zero] at d0
      have d1 := hlx 1 _ rfl
      have d2 := hlx 2 _ rfl
      have d3 := hlx 3 _ rfl
      have d4 := hlx 4 _ rfl
      have d5 := hlx 5 _ rfl
      have d6 := hlx 6 _ rfl
      have d7 := hlx 7 _ rfl
      have d8 := hlx 8 _ rfl
      have hls := left_step (dropB cl id bu co mo) hx
      clear hlx hlay hx
      obtain ⟨a0, a1, a2, a3, a4, a5, a6, a7, a8⟩ := x
      dsimp only at d0 d1 d2 d3 d4 d5 d6 d7 d8
      have HLS := Lib.hid hls
      have hll := left_len (dropB cl id bu co mo) gs k
      obtain ⟨N, hN⟩ : ∃ N, (leftL (dropB cl id bu co mo) (gs.take k)).length = N := ⟨_, rfl⟩
      have HO : Hid (wr.ownsRow w.heap.size 39 9 u13 N (cellsG (leftL (dropB cl id bu co mo) (gs.take k)))) := Lib.hid (by have h := HOWN.out; unfold OwnH at h; rw [hN] at h; exact h)
      have HNN := Lib.hid hN
      rw [hN] at hll
      have hzz : w.heap.size ≤ wr.heap.size := HQ.out.size
      clear hls hN
      go_upto_region 6 with fail
      refine code_world (fun W => Below w.heap.size w W ∧ Below wr.heap.size wr W ∧ Blk W wr.heap.size [i6 a0, u3 a1, .bool a2, i6 a3, i6 a4, .bool a5, i6 a6, i6 a7, i6 a8]) ⟨q_step HQ.out (by (repeat' (first | with_reducible exact Below.refl _ _ | with_reducible assumption | with_reducible refine q_alloc ?_ _ | with_reducible refine q_drew ?_ | with_reducible refine q_drewN _ ?_ | with_reducible refine q_setCell ?_ ?_ _ | (left; simp; done) | (right; simp; done) | (right; dsimp only; omega) | (left; dsimp only; omega)))), by (repeat' (first | with_reducible exact Below.refl _ _ | with_reducible assumption | with_reducible refine q_alloc ?_ _ | with_reducible refine q_drew ?_ | with_reducible refine q_drewN _ ?_ | with_reducible refine q_setCell ?_ ?_ _ | (left; simp; done) | (right; simp; done) | (right; dsimp only; omega) | (left; dsimp only; omega))), Blk.new rfl⟩ ?_
      intro W2 ⟨hq2, j2, bx⟩
      have HO2 := Lib.hid (own_below HO.out j2)
      have HQ2 := Lib.hid hq2
      have hz2' : w.heap.size ≤ W2.heap.size := hq2.size
      generalize wr.heap.size = xb at bx ⊢
      have e0 := bx.cell 0 rfl
      have e1 := bx.cell 1 rfl
      have e2 := bx.cell 2 rfl
      have e3 := bx.cell 3 rfl
      have e4 := bx.cell 4 rfl
      have e5 := bx.cell 5 rfl
      have e6 := bx.cell 6 rfl
      have e7 := bx.cell 7 rfl
      have e8 := bx.cell 8 rfl
      clear d0 d1 d2 d3 d4 d5 d6 d7 d8 HO HOWN hq2 j2 bx
      by_cases h0 : a0 = cl
      · have y0 : (a0 == cl) = true := by simpa using h0
        by_cases h1 : a1 = id
        · have y1 : (a1 == id) = true := by simpa using h1
          by_cases h2 : a2 = bu
          · have y2 : (a2 == bu) = true := by simpa using h2
            by_cases h3 : a3 = co
            · have y3 : (a3 == co) = true := by simpa using h3
              by_cases h5 : a4 = mo
              · have y5 : (a4 == mo) = true := by simpa using h5
                have HB : Hid (dropB cl id bu co mo ⟨a0, a1, a2, a3, a4, a5, a6, a7, a8⟩ = true) := Lib.hid (by unfold dropB; simp [h0, h1, h2, h3, h5])
                clear h0 h1 h2 h3 h5
                go_wp2_with fail
                go_roundw
                case rel => exact ⟨k + 1, by omega, by go_num, by have h := HLS.out; rw [if_pos HB.out] at h; unfold OwnH; rw [h, HNN.out]; exact HO2.out, HQ2.out⟩
                case measure => simp [intOf] <;> omega
              · have q5 : (a4 == mo) = false := by simpa using h5
                by_cases h6 : mo = 32768
                · have y6 : (mo == 32768) = true := by simpa using h6
                  have HB : Hid (dropB cl id bu co mo ⟨a0, a1, a2, a3, a4, a5, a6, a7, a8⟩ = true) := Lib.hid (by unfold dropB; simp [h0, h1, h2, h3, h5, h6])
                  clear h0 h1 h2 h3 h5 h6
                  go_wp2_with fail
                  go_roundw
                  case rel => exact ⟨k + 1, by omega, by go_num, by have h := HLS.out; rw [if_pos HB.out] at h; unfold OwnH; rw [h, HNN.out]; exact HO2.out, HQ2.out⟩
                  case measure => simp [intOf] <;> omega
                · have q6 : (mo == 32768) = false := by simpa using h6
                  have HB : Hid (dropB cl id bu co mo ⟨a0, a1, a2, a3, a4, a5, a6, a7, a8⟩ = false) := Lib.hid (by unfold dropB; simp [h0, h1, h2, h3, h5, h6])
                  clear h0 h1 h2 h3 h5 h6
                  go_wp2_with (first
                    | (at_builtin; refine wpList_append_own _ rfl _ _ 28 rfl w.heap.size 39 i0 zeroG 9 64 und_rgrabs hi hz0 hz1 hz2 rfl (by decide) _ _ _ rfl (HO2.out.alloc _) ⟨W2.heap.size, 0, none⟩ 1 1 (gL ⟨a0, a1, a2, a3, a4, a5, a6, a7, a8⟩) rfl rfl ?c1 ?c2 ?c3 ?c4 ?c5 ?_))
                  case c1 =>
                    intro j z hj
                    rw [show (⟨W2.heap.size, 0, none⟩ : Addr).add j = ⟨W2.heap.size, j, none⟩ by unfold Addr.add; split <;> simp_all]
                    exact cell_new (by simpa [gL] using hj)
                  case c2 => intro z hz; exact one_g [⟨a0, a1, a2, a3, a4, a5, a6, a7, a8⟩] z (by simpa [cellsG] using hz)
                  case c3 => unfold maxLen; omega
                  case c4 => omega
                  case c5 => simp; omega
                  intro v' w5 hown' hgrow _
                  have hb1 : Below w.heap.size w w5 := (HQ2.out.alloc HQ2.out.size _).grown hgrow (by simp; omega) (fun j hj => (HO2.out.lt j hj).1)
                  have hown2 : OwnH w5 w.heap.size v' (leftL (dropB cl id bu co mo) (gs.take (k + 1))) := by
                    have h := HLS.out
                    rw [if_neg (by rw [HB.out]; simp)] at h
                    unfold OwnH
                    rw [h, cellsG_snoc, List.length_append, HNN.out]
                    exact hown'
                  have HO3 := Lib.hid hown2
                  clear hown' hgrow hown2
                  go_wp2_with fail
                  go_roundw
                  case rel => exact ⟨k + 1, by omega, by go_num, HO3.out, hb1⟩
                  case measure => simp [intOf] <;> omega
            · have q3 : (a3 == co) = false := by simpa using h3
              by_cases h4 : co = 0
              · have y4 : (co == 0) = true := by simpa using h4
                by_cases h5 : a4 = mo
                · have y5 : (a4 == mo) = true := by simpa using h5
                  have HB : Hid (dropB cl id bu co mo ⟨a0, a1, a2, a3, a4, a5, a6, a7, a8⟩ = true) := Lib.hid (by unfold dropB; simp [h0, h1, h2, h3, h4, h5])
                  clear h0 h1 h2 h3 h4 h5
                  go_wp2_with fail
                  go_roundw
                  case rel => exact ⟨k + 1, by omega, by go_num, by have h := HLS.out; rw [if_pos HB.out] at h; unfold OwnH; rw [h, HNN.out]; exact HO2.out, HQ2.out⟩
                  case measure => simp [intOf] <;> omega
                · have q5 : (a4 == mo) = false := by simpa using h5
                  by_cases h6 : mo = 32768
                  · have y6 : (mo == 32768) = true := by simpa using h6
                    have HB : Hid (dropB cl id bu co mo ⟨a0, a1, a2, a3, a4, a5, a6, a7, a8⟩ = true) := Lib.hid (by unfold dropB; simp [h0, h1, h2, h3, h4, h5, h6])
                    clear h0 h1 h2 h3 h4 h5 h6
                    go_wp2_with fail
                    go_roundw
                    case rel => exact ⟨k + 1, by omega, by go_num, by have h := HLS.out; rw [if_pos HB.out] at h; unfold OwnH; rw [h, HNN.out]; exact HO2.out, HQ2.out⟩
                    case measure => simp [intOf] <;> omega
                  · have q6 : (mo == 32768) = false := by simpa using h6
                    have HB : Hid (dropB cl id bu co mo ⟨a0, a1, a2, a3, a4, a5, a6, a7, a8⟩ = false) := Lib.hid (by unfold dropB; simp [h0, h1, h2, h3, h4, h5, h6])
                    clear h0 h1 h2 h3 h4 h5 h6
                    go_wp2_with (first
                      | (at_builtin; refine wpList_append_own _ rfl _ _ 28 rfl w.heap.size 39 i0 zeroG 9 64 und_rgrabs hi hz0 hz1 hz2 rfl (by decide) _ _ _ rfl (HO2.out.alloc _) ⟨W2.heap.size, 0, none⟩ 1 1 (gL ⟨a0, a1, a2, a3, a4, a5, a6, a7, a8⟩) rfl rfl ?c1 ?c2 ?c3 ?c4 ?c5 ?_))
                    case c1 =>
                      intro j z hj
                      rw [show (⟨W2.heap.size, 0, none⟩ : Addr).add j = ⟨W2.heap.size, j, none⟩ by unfold Addr.add; split <;> simp_all]
                      exact cell_new (by simpa [gL] using hj)
                    case c2 => intro z hz; exact one_g [⟨a0, a1, a2, a3, a4, a5, a6, a7, a8⟩] z (by simpa [cellsG] using hz)
                    case c3 => unfold maxLen; omega
                    case c4 => omega
                    case c5 => simp; omega
                    intro v' w5 hown' hgrow _
                    have hb1 : Below w.heap.size w w5 := (HQ2.out.alloc HQ2.out.size _).grown hgrow (by simp; omega) (fun j hj => (HO2.out.lt j hj).1)
                    have hown2 : OwnH w5 w.heap.size v' (leftL (dropB cl id bu co mo) (gs.take (k + 1))) := by
                      have h := HLS.out
                      rw [if_neg (by rw [HB.out]; simp)] at h
                      unfold OwnH
                      rw [h, cellsG_snoc, List.length_append, HNN.out]
                      exact hown'
                    have HO3 := Lib.hid hown2
                    clear hown' hgrow hown2
                    go_wp2_with fail
                    go_roundw
                    case rel => exact ⟨k + 1, by omega, by go_num, HO3.out, hb1⟩
                    case measure => simp [intOf] <;> omega
              · have q4 : (co == 0) = false := by simpa using h4
                have HB : Hid (dropB cl id bu co mo ⟨a0, a1, a2, a3, a4, a5, a6, a7, a8⟩ = false) := Lib.hid (by unfold dropB; simp [h0, h1, h2, h3, h4])
                clear h0 h1 h2 h3 h4
                go_wp2_with (first
                  | (at_builtin; refine wpList_append_own _ rfl _ _ 28 rfl w.heap.size 39 i0 zeroG 9 64 und_rgrabs hi hz0 hz1 hz2 rfl (by decide) _ _ _ rfl (HO2.out.alloc _) ⟨W2.heap.size, 0, none⟩ 1 1 (gL ⟨a0, a1, a2, a3, a4, a5, a6, a7, a8⟩) rfl rfl ?c1 ?c2 ?c3 ?c4 ?c5 ?_))
                case c1 =>
                  intro j z hj
                  rw [show (⟨W2.heap.size, 0, none⟩ : Addr).add j = ⟨W2.heap.size, j, none⟩ by unfold Addr.add; split <;> simp_all]
                  exact cell_new (by simpa [gL] using hj)
                case c2 => intro z hz; exact one_g [⟨a0, a1, a2, a3, a4, a5, a6, a7, a8⟩] z (by simpa [cellsG] using hz)
                case c3 => unfold maxLen; omega
                case c4 => omega
                case c5 => simp; omega
                intro v' w5 hown' hgrow _
                have hb1 : Below w.heap.size w w5 := (HQ2.out.alloc HQ2.out.size _).grown hgrow (by simp; omega) (fun j hj => (HO2.out.lt j hj).1)
                have hown2 : OwnH w5 w.heap.size v' (leftL (dropB cl id bu co mo) (gs.take (k + 1))) := by
                  have h := HLS.out
                  rw [if_neg (by rw [HB.out]; simp)] at h
                  unfold OwnH
                  rw [h, cellsG_snoc, List.length_append, HNN.out]
                  exact hown'
                have HO3 := Lib.hid hown2
                clear hown' hgrow hown2
                go_wp2_with fail
                go_roundw
                case rel => exact ⟨k + 1, by omega, by go_num, HO3.out, hb1⟩
                case measure => simp [intOf] <;> omega
          · have q2 : (a2 == bu) = false := by simpa using h2
            have HB : Hid (dropB cl id bu co mo ⟨a0, a1, a2, a3, a4, a5, a6, a7, a8⟩ = false) := Lib.hid (by unfold dropB; simp [h0, h1, h2])
            clear h0 h1 h2
            go_wp2_with (first
              | (at_builtin; refine wpList_append_own _ rfl _ _ 28 rfl w.heap.size 39 i0 zeroG 9 64 und_rgrabs hi hz0 hz1 hz2 rfl (by decide) _ _ _ rfl (HO2.out.alloc _) ⟨W2.heap.size, 0, none⟩ 1 1 (gL ⟨a0, a1, a2, a3, a4, a5, a6, a7, a8⟩) rfl rfl ?c1 ?c2 ?c3 ?c4 ?c5 ?_))
            case c1 =>
              intro j z hj
              rw [show (⟨W2.heap.size, 0, none⟩ : Addr).add j = ⟨W2.heap.size, j, none⟩ by unfold Addr.add; split <;> simp_all]
              exact cell_new (by simpa [gL] using hj)
            case c2 => intro z hz; exact one_g [⟨a0, a1, a2, a3, a4, a5, a6, a7, a8⟩] z (by simpa [cellsG] using hz)
            case c3 => unfold maxLen; omega
            case c4 => omega
            case c5 => simp; omega
            intro v' w5 hown' hgrow _
            have hb1 : Below w.heap.size w w5 := (HQ2.out.alloc HQ2.out.size _).grown hgrow (by simp; omega) (fun j hj => (HO2.out.lt j hj).1)
            have hown2 : OwnH w5 w.heap.size v' (leftL (dropB cl id bu co mo) (gs.take (k + 1))) := by
              have h := HLS.out
              rw [if_neg (by rw [HB.out]; simp)] at h
              unfold OwnH
              rw [h, cellsG_snoc, List.length_append, HNN.out]
              exact hown'
            have HO3 := Lib.hid hown2
            clear hown' hgrow hown2
            go_wp2_with fail
            go_roundw
            case rel => exact ⟨k + 1, by omega, by go_num, HO3.out, hb1⟩
            case measure => simp [intOf] <;> omega
        · have q1 : (a1 == id) = false := by simpa using h1
          have HB : Hid (dropB cl id bu co mo ⟨a0, a1, a2, a3, a4, a5, a6, a7, a8⟩ = false) := Lib.hid (by unfold dropB; simp [h0, h1])
          clear h0 h1
          go_wp2_with (first
            | (at_builtin; refine wpList_append_own _ rfl _ _ 28 rfl w.heap.size 39 i0 zeroG 9 64 und_rgrabs hi hz0 hz1 hz2 rfl (by decide) _ _ _ rfl (HO2.out.alloc _) ⟨W2.heap.size, 0, none⟩ 1 1 (gL ⟨a0, a1, a2, a3, a4, a5, a6, a7, a8⟩) rfl rfl ?c1 ?c2 ?c3 ?c4 ?c5 ?_))
          case c1 =>
            intro j z hj
            rw [show (⟨W2.heap.size, 0, none⟩ : Addr).add j = ⟨W2.heap.size, j, none⟩ by unfold Addr.add; split <;> simp_all]
            exact cell_new (by simpa [gL] using hj)
          case c2 => intro z hz; exact one_g [⟨a0, a1, a2, a3, a4, a5, a6, a7, a8⟩] z (by simpa [cellsG] using hz)
          case c3 => unfold maxLen; omega
          case c4 => omega
          case c5 => simp; omega
          intro v' w5 hown' hgrow _
          have hb1 : Below w.heap.size w w5 := (HQ2.out.alloc HQ2.out.size _).grown hgrow (by simp; omega) (fun j hj => (HO2.out.lt j hj).1)
          have hown2 : OwnH w5 w.heap.size v' (leftL (dropB cl id bu co mo) (gs.take (k + 1))) := by
            have h := HLS.out
            rw [if_neg (by rw [HB.out]; simp)] at h
            unfold OwnH
            rw [h, cellsG_snoc, List.length_append, HNN.out]
            exact hown'
          have HO3 := Lib.hid hown2
          clear hown' hgrow hown2
          go_wp2_with fail
          go_roundw
          case rel => exact ⟨k + 1, by omega, by go_num, HO3.out, hb1⟩
          case measure => simp [intOf] <;> omega
      · have q0 : (a0 == cl) = false := by simpa using h0
        have HB : Hid (dropB cl id bu co mo ⟨a0, a1, a2, a3, a4, a5, a6, a7, a8⟩ = false) := Lib.hid (by unfold dropB; simp [h0])
        clear h0
        go_wp2_with (first
          | (at_builtin; refine wpList_append_own _ rfl _ _ 28 rfl w.heap.size 39 i0 zeroG 9 64 und_rgrabs hi hz0 hz1 hz2 rfl (by decide) _ _ _ rfl (HO2.out.alloc _) ⟨W2.heap.size, 0, none⟩ 1 1 (gL ⟨a0, a1, a2, a3, a4, a5, a6, a7, a8⟩) rfl rfl ?c1 ?c2 ?c3 ?c4 ?c5 ?_))
        case c1 =>
          intro j z hj
          rw [show (⟨W2.heap.size, 0, none⟩ : Addr).add j = ⟨W2.heap.size, j, none⟩ by unfold Addr.add; split <;> simp_all]
          exact cell_new (by simpa [gL] using hj)
        case c2 => intro z hz; exact one_g [⟨a0, a1, a2, a3, a4, a5, a6, a7, a8⟩] z (by simpa [cellsG] using hz)
        case c3 => unfold maxLen; omega
        case c4 => omega
        case c5 => simp; omega
        intro v' w5 hown' hgrow _
        have hb1 : Below w.heap.size w w5 := (HQ2.out.alloc HQ2.out.size _).grown hgrow (by simp; omega) (fun j hj => (HO2.out.lt j hj).1)
        have hown2 : OwnH w5 w.heap.size v' (leftL (dropB cl id bu co mo) (gs.take (k + 1))) := by
          have h := HLS.out
          rw [if_neg (by rw [HB.out]; simp)] at h
          unfold OwnH
          rw [h, cellsG_snoc, List.length_append, HNN.out]
          exact hown'
        have HO3 := Lib.hid hown2
        clear hown' hgrow hown2
        go_wp2_with fail
        go_roundw
        case rel => exact ⟨k + 1, by omega, by go_num, HO3.out, hb1⟩
        case measure => simp [intOf] <;> omega
    · obtain rfl : k = n := by omega
      have ho := HOWN.out
      rw [List.take_of_length_le (by rw [HN.out]; exact Nat.le_refl _)] at ho
      have HO := Lib.hid ho
      clear ho
      go_wp2_with fail
      go_returns
      exact ⟨_, rfl, HO.out, HQ.out⟩
end Go.Proofs.Ytmcndiljldbkcaa
