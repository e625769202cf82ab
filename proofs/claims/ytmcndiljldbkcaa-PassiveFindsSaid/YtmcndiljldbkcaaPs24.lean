/- Layer 38: the document's Leave and Drop. -/
import Derived.Test.YtmcndiljldbkcaaPs19
import Derived.Test.YtmcndiljldbkcaaInts
import Derived.Deep.CutRange
namespace Go.Proofs.Ytmcndiljldbkcaa
open Go Go.RowKit Go.Maps
set_option linter.unusedSimpArgs false
set_option linter.unusedVariables false
/-- A list of the document's grabs, of the call's own. -/
abbrev OwnH (w : World) (base : Nat) (v : Value) (gs : List G) : Prop := w.ownsRow base 39 9 v gs.length (cellsG gs)
theorem info_rgrab : (Try.prog.info? 39).map (fun i => (i.zero, i.size, i.bytes)) = some (some zeroG, 9, 64) := by kernel_rfl
theorem und_rgrabs : Try.prog.underlying 28 = some (.slice 39) := by kernel_rfl
theorem ownH_is {w : World} {base : Nat} {v : Value} {gs : List G} (h : OwnH w base v gs) : IsG w v gs := by
  rcases Nat.eq_zero_or_pos gs.length with h0 | hp
  · have : gs = [] := List.eq_nil_of_length_eq_zero h0
    subst this
    obtain ⟨a, c, rfl⟩ := own_sl h
    exact ⟨a, c, rfl, fun h => by simp at h⟩
  · obtain ⟨g, cap, rfl⟩ := Joins.ownsRow_form h hp
    refine ⟨_, cap, rfl, fun _ => ⟨g, 0, rfl, (h.lt g rfl).2, fun k x hk j u hj => ?_⟩⟩
    have hkl : k < gs.length := (List.getElem?_eq_some_iff.1 hk).1
    have hj9 : j < 9 := by have := (List.getElem?_eq_some_iff.1 hj).1; rw [gL_len] at this; exact this
    rw [Nat.zero_add]
    exact (h.cellAt (k * 9 + j) (by omega)).trans ((cellsG_at gs k x hk j hj9).trans hj)
theorem own_below {w w' : World} {B s n : Nat} {e : TypeId} {v : Value} {xs : List Value} (h : w.ownsRow B e s v n xs) (hb : Below w.heap.size w w') : w'.ownsRow B e s v n xs :=
  h.kept (row := none) ⟨hb.os, hb.tape, hb.output, hb.size, fun j hj _ => hb.block j hj⟩ (by cases hv : v.ownBlock <;> simp)
def leaveB (cl : Int) (is : List Int) (x : G) : Bool := decide (x.cl = cl) || is.any (fun i => decide (i = x.wi))
def dropB (cl id : Int) (bu : Bool) (co mo : Int) (x : G) : Bool := decide (x.cl = cl) && decide (x.wi = id) && (x.bu == bu) && (decide (x.co = co) || decide (co = 0)) && (decide (x.mo = mo) || decide (mo = 32768))
/-- What is left of the first k. -/
def leftL (p : G → Bool) (gs : List G) : List G := gs.filter (fun x => !p x)
theorem left_step (p : G → Bool) {gs : List G} {k : Nat} {x : G} (h : gs[k]? = some x) : leftL p (gs.take (k + 1)) = if p x = true then leftL p (gs.take k) else leftL p (gs.take k) ++ [x] := by
  unfold leftL
  rw [List.take_add_one, h, List.filter_append]
  cases hp : p x <;> simp [hp]
theorem left_len (p : G → Bool) (gs : List G) (k : Nat) : (leftL p (gs.take k)).length ≤ k := by
  unfold leftL
  exact Nat.le_trans (List.length_filter_le _ _) (List.length_take_le _ _)
theorem cell_u3 {w : World} {a : Option Addr} {n cap : Nat} {is : List Int} (h : IsInts w .u32 (.slice a n cap) is) (hn : is.length = n) (h0 : 0 < n) :
    ∃ b off, a = some ⟨b, off, none⟩ ∧ ∀ (j : Nat) (u : Int), is[j]? = some u → w.cell? ⟨b, off + j, none⟩ = some (u3 u) := by
  rcases h with ⟨_, _, e, rfl⟩ | ⟨b, off, cap', e, h1, h2, h3, h4, h5⟩
  · simp at hn; omega
  · simp only [Value.slice.injEq] at e
    refine ⟨b, off, e.1, fun j u hj => ?_⟩
    have hl := (List.getElem?_eq_some_iff.1 hj).1
    rw [h5 j hl, List.getD_eq_getElem?_getD, hj]; rfl
set_option maxRecDepth 100000 in
set_option maxHeartbeats 8000000 in
theorem rleave_any (v : Value) (gs : List G) (cl : Int) (ia : Option Addr) (inn ic : Nat) (is : List Int) (w : World) (hv : IsG w v gs) (hl : gs.length ≤ 1000) (hs : IsInts w .u32 (.slice ia inn ic) is) (hin : is.length = inn) (hil : inn ≤ 1000) :
    Calls Try.prog 42 #[v, i6 cl, .slice ia inn ic] w fun e w' => ∃ v', e = .returned v' ∧ OwnH w' w.heap.size v' (leftL (leaveB cl is) gs) ∧ Below w.heap.size w w' := by
  obtain ⟨i0, hi, hz0, hz1, hz2⟩ := info_parts info_rgrab
  obtain ⟨A, cap, rfl, hf⟩ := hv
  have HF := Lib.hid hf
  have HS := Lib.hid hs
  have HIN := Lib.hid hin
  clear hf hs hin
  obtain ⟨n, hn⟩ : ∃ n, gs.length = n := ⟨_, rfl⟩
  rw [hn] at HF hl ⊢
  have HN := Lib.hid hn
  clear hn
  go_enter Try.func42, Try.ntmps42
  go_wp2_with fail
  go_loopw [7, 8] (fun v i wr => ∃ k : Nat, k ≤ n ∧ i = .int .i64 k ∧ OwnH wr w.heap.size v (leftL (leaveB cl is) (gs.take k)) ∧ Below w.heap.size w wr)
    (fun _ i _ => n - (intOf i).toNat)
  case atStart => exact ⟨0, Nat.zero_le _, rfl, World.ownsRow_nil _ _ _ _, Below.refl _ _⟩
  case round =>
    obtain ⟨k, hk, rfl, hown, hq⟩ := hrel
    have HOWN := Lib.hid hown
    have HQ := Lib.hid hq
    clear hown hq
    by_cases hlt : k < n
    · obtain ⟨b, off, rfl, hb, hlay⟩ := HF.out (by omega)
      obtain ⟨x, hx⟩ : ∃ x, gs[k]? = some x := ⟨_, List.getElem?_eq_getElem (by rw [HN.out]; exact hlt)⟩
      have HX := Lib.hid hx
      have hki : (k : Int) < (n : Int) := by omega
      have hlx := fun j u hj => cell_below HQ.out (hlay k x hx j u hj)
      have d0 := stick (hlx 0 _ rfl)
      rw [Nat.add_zero] at d0
      have d1 := stick (hlx 1 _ rfl)
      have d2 := stick (hlx 2 _ rfl)
      have d3 := stick (hlx 3 _ rfl)
      have d4 := stick (hlx 4 _ rfl)
      have d5 := stick (hlx 5 _ rfl)
      have d6 := stick (hlx 6 _ rfl)
      have d7 := stick (hlx 7 _ rfl)
      have d8 := stick (hlx 8 _ rfl)
      clear hlx hlay hx
      obtain ⟨a0, a1, a2, a3, a4, a5, a6, a7, a8⟩ := x
      dsimp only at d0 d1 d2 d3 d4 d5 d6 d7 d8
      have J : Below wr.heap.size wr wr := Below.refl _ _
      obtain ⟨C, hC⟩ : ∃ C, decide (a0 = cl) = C := ⟨_, rfl⟩
      have HC := Lib.hid hC
      clear hC
      go_wp2_with fail
      go_loopw [9, 10] (fun g j wx => ∃ q : Nat, q ≤ inn ∧ j = .int .i64 q ∧ g = .bool (C || (is.take q).any (fun i => decide (i = a1))) ∧ Below wr.heap.size wr wx)
        (fun _ j _ => inn - (intOf j).toNat)
      case atStart => exact ⟨0, Nat.zero_le _, rfl, by rw [← HC.out]; by_cases h : a0 = cl <;> simp [h], Below.refl _ _⟩
      case round =>
        clear J
        obtain ⟨q, hq', rfl, rfl, J⟩ := hrel
        by_cases hqlt : q < inn
        · have hqi : (q : Int) < (inn : Int) := by omega
          obtain ⟨ib, ioff, rfl, hcs⟩ := cell_u3 HS.out HIN.out (by omega)
          obtain ⟨u, hu⟩ : ∃ u, is[q]? = some u := ⟨_, List.getElem?_eq_getElem (by rw [HIN.out]; exact hqlt)⟩
          have y0 := stick (cell_below HQ.out (hcs q u hu))
          have hst : (is.take (q + 1)).any (fun i => decide (i = a1)) = ((is.take q).any (fun i => decide (i = a1)) || decide (u = a1)) := by
            rw [List.take_add_one, hu, List.any_append]; simp
          have HST := Lib.hid hst
          clear hcs hu hst
          generalize hB : (C || (is.take q).any (fun i => decide (i = a1))) = B
          have HB := Lib.hid hB
          clear hB
          cases B with
          | true =>
            go_wp2_with fail
            go_quiet (fail)
            all_goals
              go_wp2_with fail
              go_roundw
              case rel => exact ⟨q + 1, by omega, by go_num, by rw [HST.out, ← Bool.or_assoc, HB.out]; rfl, by (repeat' (first | with_reducible exact Below.refl _ _ | with_reducible assumption | with_reducible refine q_alloc ?_ _ | with_reducible refine q_drew ?_ | with_reducible refine q_drewN _ ?_ | with_reducible refine q_setCell ?_ ?_ _ | (left; simp; done) | (right; simp; done) | (right; dsimp only; omega) | (left; dsimp only; omega)))⟩
              case measure => simp [intOf] <;> omega
          | false =>
            by_cases hua : u = a1
            · subst hua
              go_wp2_with fail
              go_quiet (fail)
              all_goals
                go_wp2_with fail
                go_roundw
                case rel => exact ⟨q + 1, by omega, by go_num, by rw [HST.out, ← Bool.or_assoc, HB.out]; simp, by (repeat' (first | with_reducible exact Below.refl _ _ | with_reducible assumption | with_reducible refine q_alloc ?_ _ | with_reducible refine q_drew ?_ | with_reducible refine q_drewN _ ?_ | with_reducible refine q_setCell ?_ ?_ _ | (left; simp; done) | (right; simp; done) | (right; dsimp only; omega) | (left; dsimp only; omega)))⟩
                case measure => simp [intOf] <;> omega
            · have hub : (u == a1) = false := by simpa using hua
              have HUA : Hid (decide (u = a1) = false) := Lib.hid (decide_eq_false hua)
              go_wp2_with fail
              go_quiet (fail)
              all_goals
                go_wp2_with fail
                go_roundw
                case rel => exact ⟨q + 1, by omega, by go_num, by rw [HST.out, ← Bool.or_assoc, HB.out, HUA.out]; simp, by (repeat' (first | with_reducible exact Below.refl _ _ | with_reducible assumption | with_reducible refine q_alloc ?_ _ | with_reducible refine q_drew ?_ | with_reducible refine q_drewN _ ?_ | with_reducible refine q_setCell ?_ ?_ _ | (left; simp; done) | (right; simp; done) | (right; dsimp only; omega) | (left; dsimp only; omega)))⟩
                case measure => simp [intOf] <;> omega
        · obtain rfl : q = inn := by omega
          have hB : (C || (is.take q).any (fun i => decide (i = a1))) = leaveB cl is ⟨a0, a1, a2, a3, a4, a5, a6, a7, a8⟩ := by
            unfold leaveB
            rw [List.take_of_length_le (by rw [HIN.out]; exact Nat.le_refl _), HC.out]
          rw [hB]
          clear hB
          have hls := left_step (leaveB cl is) HX.out
          cases hL : leaveB cl is ⟨a0, a1, a2, a3, a4, a5, a6, a7, a8⟩ with
          | true =>
            rw [hL, if_pos rfl] at hls
            have HLS := Lib.hid hls
            clear hL hls
            go_wp2_with fail
            go_roundw
            case rel => exact ⟨k + 1, by omega, by go_num, by rw [HLS.out]; exact own_below HOWN.out J, q_step HQ.out J⟩
            case measure => simp [intOf] <;> omega
          | false =>
            rw [hL, if_neg (by simp)] at hls
            have HLS := Lib.hid hls
            have hll := left_len (leaveB cl is) gs k
            have ho : OwnH wr w.heap.size u7 (leftL (leaveB cl is) (gs.take k)) := own_below HOWN.out J
            clear hL hls
            have hq2 := q_step HQ.out J
            have hzz : w.heap.size ≤ wr.heap.size := hq2.size
            obtain ⟨N, hN⟩ : ∃ N, (leftL (leaveB cl is) (gs.take k)).length = N := ⟨_, rfl⟩
            have HO : Hid (wr.ownsRow w.heap.size 39 9 u7 N (cellsG (leftL (leaveB cl is) (gs.take k)))) := Lib.hid (by rw [← hN]; exact ho)
            have HNN := Lib.hid hN
            rw [hN] at hll
            have HQ2 := Lib.hid hq2
            clear hN ho hq2
            go_wp2_with (first
              | (at_builtin; refine wpList_append_own _ rfl _ _ 28 rfl w.heap.size 39 i0 zeroG 9 64 und_rgrabs hi hz0 hz1 hz2 rfl (by decide) _ _ _ rfl (HO.out.alloc _) ⟨wr.heap.size, 0, none⟩ 1 1 (gL ⟨a0, a1, a2, a3, a4, a5, a6, a7, a8⟩) rfl rfl ?c1 ?c2 ?c3 ?c4 ?c5 ?_))
            case c1 =>
              intro j z hj
              rw [show (⟨wr.heap.size, 0, none⟩ : Addr).add j = ⟨wr.heap.size, j, none⟩ by unfold Addr.add; split <;> simp_all]
              exact cell_new (by simpa [gL] using hj)
            case c2 => intro z hz; exact one_g [⟨a0, a1, a2, a3, a4, a5, a6, a7, a8⟩] z (by simpa [cellsG] using hz)
            case c3 => unfold maxLen; omega
            case c4 => omega
            case c5 => simp; omega
            intro v' w5 hown' hgrow _
            have hb1 : Below w.heap.size w w5 := (HQ2.out.alloc HQ2.out.size _).grown hgrow (by simp; omega) (fun j hj => (HO.out.lt j hj).1)
            have hown2 : OwnH w5 w.heap.size v' (leftL (leaveB cl is) (gs.take (k + 1))) := by
              unfold OwnH
              rw [HLS.out, cellsG_snoc, List.length_append, HNN.out]
              exact hown'
            have HO2 := Lib.hid hown2
            clear hown' hgrow hown2
            go_wp2_with fail
            go_roundw
            case rel => exact ⟨k + 1, by omega, by go_num, HO2.out, hb1⟩
            case measure => simp [intOf] <;> omega
    · obtain rfl : k = n := by omega
      have ho := HOWN.out
      rw [List.take_of_length_le (by rw [HN.out]; exact Nat.le_refl _)] at ho
      have HO := Lib.hid ho
      clear ho
      go_wp2_with fail
      go_returns
      exact ⟨_, rfl, HO.out, HQ.out⟩
end Go.Proofs.Ytmcndiljldbkcaa
