/- Layer 25: the document's answers: how often a byte stands from a place on; the short form. -/
import Derived.Test.YtfdmiaoljepcmaaImg8
namespace Go.Proofs.Ytfdmiaoljepcmaa
open Go Go.RowKit
set_option linter.unusedSimpArgs false
set_option linter.unusedVariables false

/-- The first byte stands there n times, one behind the other. -/
structure IsAlike (l : List Int) (n : Nat) : Prop where
  len : n ≤ l.length
  alike : ∀ j, j < n → l.getD j 0 = l.getD 0 0
  ends : n = l.length ∨ ¬ l.getD n 0 = l.getD 0 0
theorem IsAlike.run {l : List Int} {n : Nat} (h : IsAlike l n) (h0 : 0 < l.length) : IsRun l (min n 130) := by
  have hn : 1 ≤ n := by
    rcases Nat.eq_zero_or_pos n with e | e
    · subst e
      rcases h.ends with q | q
      · omega
      · exact absurd rfl q
    · exact e
  have hl := h.len
  refine ⟨by omega, by omega, by omega, fun j hj => h.alike j (by omega), ?_⟩
  by_cases hb : n ≤ 130
  · rw [Nat.min_eq_left hb]
    rcases h.ends with q | q
    · exact .inl q
    · exact .inr (.inr q)
  · exact .inr (.inl (by omega))
theorem getD_drop (l : List Int) (a j : Nat) : (l.drop a).getD j 0 = l.getD (a + j) 0 := by
  rw [List.getD_eq_getElem?_getD, List.getD_eq_getElem?_getD, List.getElem?_drop]

/-- The block g holds these bytes, to be read. -/
structure BytesAt (w : World) (g : Nat) (l : List Int) : Prop where
  lt : g < w.heap.size
  at_ : ∀ j, j < l.length → w.cell? ⟨g, j, none⟩ = some (u8v (l.getD j 0))
theorem BytesAt.below {w w' : World} {g : Nat} {l : List Int} (h : BytesAt w g l) (hb : Below w.heap.size w w') : BytesAt w' g l :=
  ⟨Nat.lt_of_lt_of_le h.lt hb.size, fun j hj => (hb.cell (p := ⟨g, j, none⟩) h.lt).trans (h.at_ j hj)⟩

set_option maxRecDepth 100000 in
set_option maxHeartbeats 1000000 in
theorem alike_any (l : List Int) (g cap at' : Nat) (w : World) (h : BytesAt w g l) (hl : l.length ≤ 1000000) (ha : at' < l.length) :
    Calls Try.prog 19 #[.slice (some ⟨g, 0, none⟩) l.length cap, i6 at'] w fun e w' => ∃ n : Nat, e = .returned (i6 n) ∧ IsAlike (l.drop at') n ∧ Below w.heap.size w w' := by
  have hq := Below.refl w.heap.size w
  have HO := Lib.hid h
  clear h
  have hdl : (l.drop at').length = l.length - at' := List.length_drop
  go_enter Try.func19, Try.ntmps19
  go_wp2_with fail
  go_loopw [5] (fun n wr => ∃ k : Nat, n = .int .i64 k ∧ k ≤ l.length - at' ∧ Hid (∀ j, j < k → (l.drop at').getD j 0 = (l.drop at').getD 0 0) ∧ Below w.heap.size w wr)
    (fun n _ => l.length - (intOf n).toNat)
  case atStart => exact ⟨0, rfl, by omega, Lib.hid (fun j hj => absurd hj (Nat.not_lt_zero _)), hq⟩
  case round =>
    clear hq
    obtain ⟨k, rfl, hk3, hall, hnx⟩ := hrel
    have hO2 := HO.out.below hnx
    have hc0 : wr.cell? ⟨g, at', none⟩ = some (u8v (l.getD at' 0)) := hO2.at_ at' ha
    have hw1 : IntKind.i64.wrap ((at' : Int) + (k : Int)) = (at' : Int) + (k : Int) := IntWalk.i64_in _ (by omega)
    have hat : (at' : Int) < (l.length : Int) := by omega
    by_cases hlt : at' + k < l.length
    · have t1 : decide ((at' : Int) + (k : Int) < (l.length : Int)) = true := decide_eq_true (by omega)
      have u1 : (at' : Int) + (k : Int) < (l.length : Int) := by omega
      have hck : wr.cell? ⟨g, at' + k, none⟩ = some (u8v (l.getD (at' + k) 0)) := hO2.at_ (at' + k) hlt
      clear hO2
      have hu0 : (0 : Int) ≤ (at' : Int) + (k : Int) := by omega
      by_cases he : l.getD (at' + k) 0 = l.getD at' 0
      · have hall' : Hid (∀ j, j < k + 1 → (l.drop at').getD j 0 = (l.drop at').getD 0 0) := Lib.hid (fun j hj => by
          by_cases e : j = k
          · rw [e, getD_drop, getD_drop, Nat.add_zero]; exact he
          · exact hall.out j (by omega))
        rw [he] at hck
        clear hall he
        generalize l.getD at' 0 = x at hc0 hck
        go_wp2_with fail
        go_quiet (fail)
        have hq2 : Below w.heap.size w (wr.drewN nq) := q_drewN _ hnx
        go_wp2_with fail
        go_roundw
        case rel => exact ⟨k + 1, by go_num, by omega, hall', hq2⟩
        case measure => simp [intOf]; omega
      · have HF : IsAlike (l.drop at') k := ⟨by omega, hall.out, .inr (by rw [getD_drop, getD_drop, Nat.add_zero]; exact he)⟩
        have he' : decide (l.getD (at' + k) 0 = l.getD at' 0) = false := decide_eq_false he
        generalize l.getD at' 0 = x at hc0 he he'
        generalize l.getD (at' + k) 0 = y at hck he he'
        clear hall
        go_wp2_with fail
        go_quiet (fail)
        have hq2 : Below w.heap.size w (wr.drewN nq) := q_drewN _ hnx
        go_wp2_with fail
        go_returns
        exact ⟨k, by first | rfl | (simp; done), HF, hq2⟩
    · have HF : IsAlike (l.drop at') k := ⟨by omega, hall.out, .inl (by omega)⟩
      have t1 : decide ((at' : Int) + (k : Int) < (l.length : Int)) = false := decide_eq_false (by omega)
      clear hall hO2
      go_wp2_with fail
      go_quiet (fail)
      have hq2 : Below w.heap.size w (wr.drewN nq) := q_drewN _ hnx
      go_wp2_with fail
      go_returns
      exact ⟨k, by first | rfl | (simp; done), HF, hq2⟩

/-- A list of bytes of the call's own. -/
abbrev OwnU (w : World) (B : Nat) (v : Value) (xs : List Int) : Prop := w.ownsRow B 5 1 v xs.length (xs.map u8v)
theorem ownU_below {w w' : World} {B : Nat} {v : Value} {xs : List Int} (h : OwnU w B v xs) (hb : Below w.heap.size w w') : OwnU w' B v xs := own_below h hb
theorem slice_news {w : World} {g : Nat} {l : List Int} (h : BytesAt w g l) (a k : Nat) (hk : a + k ≤ l.length) :
    (((l.drop a).take k).map u8v).length = k * 1 ∧ (∀ j u, (((l.drop a).take k).map u8v)[j]? = some u → w.cell? ((⟨g, a, none⟩ : Addr).add j) = some u) ∧ ∀ u ∈ ((l.drop a).take k).map u8v, u.oneCell' = true := by
  refine ⟨by rw [List.length_map, List.length_take, List.length_drop]; omega, fun j u hj => ?_, fun u hu => ?_⟩
  · have hj' : j < k := by
      rcases Nat.lt_or_ge j k with q | q
      · exact q
      · rw [List.getElem?_eq_none (by rw [List.length_map, List.length_take, List.length_drop]; omega)] at hj; cases hj
    rw [show (⟨g, a, none⟩ : Addr).add j = ⟨g, a + j, none⟩ by simp [Addr.add], h.at_ (a + j) (by omega)]
    rw [List.getElem?_map, List.getElem?_take, if_pos hj', List.getElem?_drop, List.getElem?_eq_getElem (by omega)] at hj
    rw [List.getD_eq_getElem?_getD, List.getElem?_eq_getElem (by omega)]
    simpa using hj
  · obtain ⟨y, _, rfl⟩ := List.mem_map.1 hu
    rfl

set_option maxRecDepth 100000 in
set_option maxHeartbeats 4000000 in
theorem rshort_any (l : List Int) (g cap : Nat) (w : World) (h : BytesAt w g l) (hb : IsBytes l) (hl : l.length ≤ 65536) (hcap : l.length ≤ cap) :
    Calls Try.prog 11 #[.slice (some ⟨g, 0, none⟩) l.length cap] w fun e w' => ∃ v s, e = .returned v ∧ ShortOf l s ∧ OwnU w' w.heap.size v s ∧ Below w.heap.size w w' := by
  obtain ⟨i0, hi, hz0, hz1, hz2⟩ := info_parts' info_byte
  have hq := Below.refl w.heap.size w
  have HO := Lib.hid h
  have HB := Lib.hid hb
  clear h hb
  go_enter Try.func11, Try.ntmps11
  go_wp2_with fail
  go_loopw [3, 4] (fun v i wr => ∃ (a : Nat) (out : List Int), i = .int .i64 a ∧ a ≤ l.length ∧ OwnU wr w.heap.size v out ∧ out.length ≤ 2 * a ∧ Hid (∀ s, ShortOf (l.drop a) s → ShortOf l (out ++ s)) ∧ Below w.heap.size w wr)
    (fun _ i _ => l.length - (intOf i).toNat)
  case atStart => exact ⟨0, [], rfl, Nat.zero_le _, World.ownsRow_nil _ _ _ _, by simp, Lib.hid (fun s hs => by simpa using hs), hq⟩
  case round =>
    clear hq
    obtain ⟨a, out, rfl, hal, hown, hol, hfor, hnx⟩ := hrel
    have hdl : (l.drop a).length = l.length - a := List.length_drop
    have HW := Lib.hid hown
    clear hown
    by_cases hlt : a < l.length
    · have hai : (a : Int) < (l.length : Int) := by omega
      go_wp2_with fail
      refine (alike_any l g cap a _ (HO.out.below hnx) (by omega) hlt).mono ?_
      rintro e W2 ⟨n, rfl, hA, hb2⟩
      have hnx2 := q_step hnx hb2
      have hrun := hA.run (by omega)
      have hnl := hA.len
      have HW2 := Lib.hid (ownU_below HW.out hb2)
      clear hb2 hnx HW
      by_cases h3 : 3 ≤ n
      · have g3 : (3 : Int) ≤ (n : Int) := by omega
        by_cases hb130 : 130 < n
        · have h130 : (130 : Int) < (n : Int) := by omega
          have hr2 : IsRun (l.drop a) 130 := by have := hrun; rwa [show min n 130 = 130 by omega] at this
          have hc0 : W2.cell? ⟨g, a, none⟩ = some (u8v (l.getD a 0)) := (HO.out.below hnx2).at_ a hlt
          have hnext : Hid (∀ s, ShortOf (l.drop (a + 130)) s → ShortOf l ((out ++ [255, l.getD a 0]) ++ s)) := Lib.hid (fun s hs => by
            have h1 := ShortOf.run (l := l.drop a) (s := s) (n := 130) (by omega) hr2 (by omega) (by rw [List.drop_drop]; exact hs)
            rw [getD_drop, Nat.add_zero] at h1
            have := hfor.out _ h1
            simpa using this)
          generalize l.getD a 0 = x at hc0 hnext
          have f3 : IntKind.i64.wrap ((a : Int) + (130 : Int)) = (a : Int) + (130 : Int) := IntWalk.i64_in _ (by omega)
          clear hfor hA hrun hr2
          go_wp2_with (first
            | (at_builtin; refine wpList_append_own _ rfl _ _ 28 rfl w.heap.size 5 i0 (.int .u8 0) 1 1 und_bytes hi hz0 hz1 hz2 rfl (by decide) _ _ _ rfl (HW2.out.alloc _) _ 2 2 [u8v 255, u8v x] rfl rfl ?c1 ?c2 ?c3 ?c4 ?c5 ?_)
            | fail)
          try (case c1 =>
            intro j u hj
            match j, hj with
            | 0, hj => simp at hj; subst hj; exact cell_new rfl
            | 1, hj => simp at hj; subst hj; exact cell_new rfl)
          case c2 => intro u hu; simp at hu; rcases hu with rfl | rfl <;> rfl
          case c3 => unfold maxLen; omega
          case c4 => omega
          case c5 => have := hnx2.size; simp; omega
          intro v' w4 hown' hgrow _
          have hnx4 : Below w.heap.size w w4 := (hnx2.alloc hnx2.size _).grown hgrow (by have := hnx2.size; simp; omega) (fun j hj => (HW2.out.lt j hj).1)
          have hown4 : OwnU w4 w.heap.size v' (out ++ [255, x]) := by
            unfold OwnU
            rw [List.length_append, List.map_append]; exact hown'
          clear hown' hgrow hnx2 HW2
          go_wp2_with fail
          go_roundw
          case rel => exact ⟨a + 130, _, by go_num, by omega, hown4, by rw [List.length_append]; simp; omega, hnext, hnx4⟩
          case measure => simp [intOf]; omega
        · have h130 : ¬ (130 : Int) < (n : Int) := by omega
          have hr2 : IsRun (l.drop a) n := by have := hrun; rwa [show min n 130 = n by omega] at this
          have hc0 : W2.cell? ⟨g, a, none⟩ = some (u8v (l.getD a 0)) := (HO.out.below hnx2).at_ a hlt
          have hnext : Hid (∀ s, ShortOf (l.drop (a + n)) s → ShortOf l ((out ++ [((n : Int) + 125), l.getD a 0]) ++ s)) := Lib.hid (fun s hs => by
            have h1 := ShortOf.run (l := l.drop a) (s := s) (n := n) (by omega) hr2 (by omega) (by rw [List.drop_drop]; exact hs)
            rw [getD_drop, Nat.add_zero] at h1
            have := hfor.out _ h1
            simpa using this)
          generalize l.getD a 0 = x at hc0 hnext
          have f1 : IntKind.u8.wrap ((n : Int) + 125) = (n : Int) + 125 := u8_in (by omega) (by omega)
          have f2 : IntKind.i64.wrap ((n : Int) + 125) = (n : Int) + 125 := IntWalk.i64_in _ (by omega)
          have f3 : IntKind.i64.wrap ((a : Int) + (n : Int)) = (a : Int) + (n : Int) := IntWalk.i64_in _ (by omega)
          clear hfor hA hrun hr2
          go_wp2_with (first
            | (at_builtin; refine wpList_append_own _ rfl _ _ 28 rfl w.heap.size 5 i0 (.int .u8 0) 1 1 und_bytes hi hz0 hz1 hz2 rfl (by decide) _ _ _ rfl (HW2.out.alloc _) _ 2 2 [u8v ((n : Int) + 125), u8v x] rfl rfl ?c1 ?c2 ?c3 ?c4 ?c5 ?_)
            | fail)
          try (case c1 =>
            intro j u hj
            match j, hj with
            | 0, hj => simp at hj; subst hj; exact cell_new rfl
            | 1, hj => simp at hj; subst hj; exact cell_new rfl)
          case c2 => intro u hu; simp at hu; rcases hu with rfl | rfl <;> rfl
          case c3 => unfold maxLen; omega
          case c4 => omega
          case c5 => have := hnx2.size; simp; omega
          intro v' w4 hown' hgrow _
          have hnx4 : Below w.heap.size w w4 := (hnx2.alloc hnx2.size _).grown hgrow (by have := hnx2.size; simp; omega) (fun j hj => (HW2.out.lt j hj).1)
          have hown4 : OwnU w4 w.heap.size v' (out ++ [((n : Int) + 125), x]) := by
            unfold OwnU
            rw [List.length_append, List.map_append]; exact hown'
          clear hown' hgrow hnx2 HW2
          go_wp2_with fail
          go_roundw
          case rel => exact ⟨a + n, _, by go_num, by omega, hown4, by rw [List.length_append]; simp; omega, hnext, hnx4⟩
          case measure => simp [intOf]; omega
      · have g3 : ¬ (3 : Int) ≤ (n : Int) := by omega
        have hn3 : min n 130 < 3 := by omega
        clear hA
        go_wp2_with fail
        go_loopw [6] (fun q wr => ∃ k : Nat, q = .int .i64 k ∧ 1 ≤ k ∧ k ≤ 128 ∧ a + k ≤ l.length ∧ Hid (∀ j, j < k → ∃ m, IsRun ((l.drop a).drop j) m ∧ m < 3) ∧ Below W2.heap.size W2 wr)
          (fun q _ => 128 - (intOf q).toNat)
        case atStart => exact ⟨1, rfl, by omega, by omega, by omega, Lib.hid (fun j hj => by
          obtain rfl : j = 0 := by omega
          exact ⟨_, by rw [List.drop_zero]; exact hrun, hn3⟩), Below.refl _ _⟩
        case round =>
          obtain ⟨k, rfl, hk1, hk2, hk3, hall, hin⟩ := hrel
          have hnx3 := q_step hnx2 hin
          have HW3 := Lib.hid (ownU_below HW2.out hin)
          have hw1 : IntKind.i64.wrap ((a : Int) + (k : Int)) = (a : Int) + (k : Int) := IntWalk.i64_in _ (by omega)
          have leave : True := trivial
          by_cases h128 : k < 128
          · have u1 : (k : Int) < 128 := by omega
            by_cases hend : a + k < l.length
            · have u2 : (a : Int) + (k : Int) < (l.length : Int) := by omega
              have HAL := alike_any l g cap (a + k) wr (HO.out.below hnx3) (by omega) hend
              rw [show ((a + k : Nat) : Int) = (a : Int) + (k : Int) by omega] at HAL
              have HAL2 := Lib.hid HAL
              clear HAL
              have hdl2 : (l.drop (a + k)).length = l.length - (a + k) := List.length_drop
              go_wp2_with fail
              refine HAL2.out.mono ?_
              rintro e W4 ⟨n2, rfl, hA2, hb4⟩
              have hin4 := q_step hin hb4
              have hrun2 := hA2.run (by omega)
              have hdd : (l.drop a).drop k = l.drop (a + k) := List.drop_drop
              by_cases h33 : n2 < 3
              · have u3 : (n2 : Int) < 3 := by omega
                have hall' : Hid (∀ j, j < k + 1 → ∃ m, IsRun ((l.drop a).drop j) m ∧ m < 3) := Lib.hid (fun j hj => by
                  by_cases e : j = k
                  · rw [e, hdd]; exact ⟨_, hrun2, by omega⟩
                  · exact hall.out j (by omega))
                clear hall hdd hrun2 hA2 HAL2
                go_wp2_with fail
                go_roundw
                case rel => exact ⟨k + 1, by go_num, by omega, by omega, by omega, hall', hin4⟩
                case measure => simp [intOf]; omega
              · have u3 : ¬ (n2 : Int) < 3 := by omega
                have HF : IsPlain (l.drop a) k := ⟨hk2, by omega, hall.out, .inr (.inr ⟨_, by rw [hdd]; exact hrun2, by omega⟩)⟩
                have HW4 := Lib.hid (ownU_below HW3.out hb4)
                have hnx4 := q_step hnx3 hb4
                clear hall hdd hrun2 hA2 HAL2 hnx3 HW3
                have hlt2 : ((l.drop a).take k).length = k := by rw [List.length_take]; omega
                have f1 : IntKind.u8.wrap ((k : Int) - 1) = (k : Int) - 1 := u8_in (by omega) (by omega)
                have f2 : IntKind.i64.wrap ((k : Int) - 1) = (k : Int) - 1 := IntWalk.i64_in _ (by omega)
                have hnext : Hid (∀ s, ShortOf (l.drop (a + k)) s → ShortOf l (((out ++ [(k : Int) - 1]) ++ (l.drop a).take k) ++ s)) := Lib.hid (fun s hs => by
                  have h1 := ShortOf.plain (l := l.drop a) (s := s) (n := k) (by omega) hrun hn3 HF hk1 (by rw [List.drop_drop]; exact hs)
                  have := hfor.out _ h1
                  simpa using this)
                go_wp2_with (first
                  | (at_builtin; refine wpList_append_own _ rfl _ _ 28 rfl w.heap.size 5 i0 (.int .u8 0) 1 1 und_bytes hi hz0 hz1 hz2 rfl (by decide) _ _ _ rfl (HW4.out.alloc _) _ 1 1 [u8v ((k : Int) - 1)] rfl rfl ?c1 ?c2 ?c3 ?c4 ?c5 ?_)
                  | fail)
                try (case c1 =>
                  intro j u hj
                  match j, hj with
                  | 0, hj => simp at hj; subst hj; exact cell_new rfl)
                case c2 => first | rfl | (intro u hu; simp at hu; subst hu; rfl)
                case c3 => unfold maxLen; omega
                case c4 => omega
                case c5 => have := hnx4.size; simp; omega
                intro v5 w5 hown' hgrow _
                have hnx5 : Below w.heap.size w w5 := (hnx4.alloc hnx4.size _).grown hgrow (by have := hnx4.size; simp; omega) (fun j hj => (HW4.out.lt j hj).1)
                have hown5 : OwnU w5 w.heap.size v5 (out ++ [(k : Int) - 1]) := by
                  unfold OwnU
                  rw [List.length_append, List.map_append]; exact hown'
                have HW5 := Lib.hid hown5
                clear hown' hgrow hnx4 HW4 hown5
                obtain ⟨n1, n2', n3⟩ := slice_news (HO.out.below hnx5) a k (by omega)
                have HN1 := Lib.hid n1
                have HN2 := Lib.hid n2'
                have HN3 := Lib.hid n3
                clear n1 n2' n3
                have z1 : (0 : Int) ≤ (a : Int) + (k : Int) := by omega
                have z2 : (a : Int) + (k : Int) ≤ (cap : Int) := by omega
                have z3 : (a : Int) ≤ (a : Int) + (k : Int) := by omega
                have z4 : ((a : Int) + (k : Int)).toNat - a = k := by omega
                have z5 : ¬ cap = a := by omega
                have z6 : max ((a : Int) + (k : Int)) 0 = (a : Int) + (k : Int) := by omega
                have z7 : IntKind.i64.wrap (a : Int) = (a : Int) := IntWalk.i64_in _ (by omega)
                go_wp2_with (first
                  | (at_builtin; refine wpList_append_own _ rfl _ _ 28 rfl w.heap.size 5 i0 (.int .u8 0) 1 1 und_bytes hi hz0 hz1 hz2 rfl (by decide) _ _ _ rfl HW5.out ⟨g, a, none⟩ k _ (((l.drop a).take k).map u8v) rfl HN1.out HN2.out HN3.out ?c3 ?c4 ?c5 ?_)
                  | fail)
                case c3 => rw [List.length_append]; unfold maxLen; simp; omega
                case c4 => rw [List.length_append]; simp; omega
                case c5 => exact hnx5.size
                intro v6 w6 hown' hgrow _
                have hnx6 : Below w.heap.size w w6 := hnx5.grown hgrow hnx5.size (fun j hj => (HW5.out.lt j hj).1)
                have hown6 : OwnU w6 w.heap.size v6 ((out ++ [(k : Int) - 1]) ++ (l.drop a).take k) := by
                  have hlen6 : ((out ++ [(k : Int) - 1]) ++ (l.drop a).take k).length = out.length + 1 + k := by rw [List.length_append, hlt2, List.length_append]; rfl
                  have hmap6 : ((out ++ [(k : Int) - 1]) ++ (l.drop a).take k).map u8v = out.map u8v ++ u8v ((k : Int) - 1) :: ((l.map u8v).drop a).take k := by simp
                  unfold OwnU
                  rw [hlen6, hmap6]
                  first | exact hown' | simpa using hown'
                clear hown' hgrow hnx5 HW5 HN1 HN2 HN3 z1 z2 z3 z4 z5 z6 z7
                go_wp2_with fail
                go_roundw
                case rel => exact ⟨a + k, _, by go_num, by omega, hown6, by rw [List.length_append, List.length_append, hlt2]; simp; omega, hnext, hnx6⟩
                case measure => simp [intOf]; omega
            · have u2 : ¬ (a : Int) + (k : Int) < (l.length : Int) := by omega
              have HF : IsPlain (l.drop a) k := ⟨hk2, by omega, hall.out, .inl (by omega)⟩
              have HW4 := HW3
              have hnx4 := hnx3
              clear hall hnx3 HW3
              have hlt2 : ((l.drop a).take k).length = k := by rw [List.length_take]; omega
              have f1 : IntKind.u8.wrap ((k : Int) - 1) = (k : Int) - 1 := u8_in (by omega) (by omega)
              have f2 : IntKind.i64.wrap ((k : Int) - 1) = (k : Int) - 1 := IntWalk.i64_in _ (by omega)
              have hnext : Hid (∀ s, ShortOf (l.drop (a + k)) s → ShortOf l (((out ++ [(k : Int) - 1]) ++ (l.drop a).take k) ++ s)) := Lib.hid (fun s hs => by
                have h1 := ShortOf.plain (l := l.drop a) (s := s) (n := k) (by omega) hrun hn3 HF hk1 (by rw [List.drop_drop]; exact hs)
                have := hfor.out _ h1
                simpa using this)
              go_wp2_with (first
                | (at_builtin; refine wpList_append_own _ rfl _ _ 28 rfl w.heap.size 5 i0 (.int .u8 0) 1 1 und_bytes hi hz0 hz1 hz2 rfl (by decide) _ _ _ rfl (HW4.out.alloc _) _ 1 1 [u8v ((k : Int) - 1)] rfl rfl ?c1 ?c2 ?c3 ?c4 ?c5 ?_)
                | fail)
              try (case c1 =>
                intro j u hj
                match j, hj with
                | 0, hj => simp at hj; subst hj; exact cell_new rfl)
              case c2 => first | rfl | (intro u hu; simp at hu; subst hu; rfl)
              case c3 => unfold maxLen; omega
              case c4 => omega
              case c5 => have := hnx4.size; simp; omega
              intro v5 w5 hown' hgrow _
              have hnx5 : Below w.heap.size w w5 := (hnx4.alloc hnx4.size _).grown hgrow (by have := hnx4.size; simp; omega) (fun j hj => (HW4.out.lt j hj).1)
              have hown5 : OwnU w5 w.heap.size v5 (out ++ [(k : Int) - 1]) := by
                unfold OwnU
                rw [List.length_append, List.map_append]; exact hown'
              have HW5 := Lib.hid hown5
              clear hown' hgrow hnx4 HW4 hown5
              obtain ⟨n1, n2', n3⟩ := slice_news (HO.out.below hnx5) a k (by omega)
              have HN1 := Lib.hid n1
              have HN2 := Lib.hid n2'
              have HN3 := Lib.hid n3
              clear n1 n2' n3
              have z1 : (0 : Int) ≤ (a : Int) + (k : Int) := by omega
              have z2 : (a : Int) + (k : Int) ≤ (cap : Int) := by omega
              have z3 : (a : Int) ≤ (a : Int) + (k : Int) := by omega
              have z4 : ((a : Int) + (k : Int)).toNat - a = k := by omega
              have z5 : ¬ cap = a := by omega
              have z6 : max ((a : Int) + (k : Int)) 0 = (a : Int) + (k : Int) := by omega
              have z7 : IntKind.i64.wrap (a : Int) = (a : Int) := IntWalk.i64_in _ (by omega)
              go_wp2_with (first
                | (at_builtin; refine wpList_append_own _ rfl _ _ 28 rfl w.heap.size 5 i0 (.int .u8 0) 1 1 und_bytes hi hz0 hz1 hz2 rfl (by decide) _ _ _ rfl HW5.out ⟨g, a, none⟩ k _ (((l.drop a).take k).map u8v) rfl HN1.out HN2.out HN3.out ?c3 ?c4 ?c5 ?_)
                | fail)
              case c3 => rw [List.length_append]; unfold maxLen; simp; omega
              case c4 => rw [List.length_append]; simp; omega
              case c5 => exact hnx5.size
              intro v6 w6 hown' hgrow _
              have hnx6 : Below w.heap.size w w6 := hnx5.grown hgrow hnx5.size (fun j hj => (HW5.out.lt j hj).1)
              have hown6 : OwnU w6 w.heap.size v6 ((out ++ [(k : Int) - 1]) ++ (l.drop a).take k) := by
                have hlen6 : ((out ++ [(k : Int) - 1]) ++ (l.drop a).take k).length = out.length + 1 + k := by rw [List.length_append, hlt2, List.length_append]; rfl
                have hmap6 : ((out ++ [(k : Int) - 1]) ++ (l.drop a).take k).map u8v = out.map u8v ++ u8v ((k : Int) - 1) :: ((l.map u8v).drop a).take k := by simp
                unfold OwnU
                rw [hlen6, hmap6]
                first | exact hown' | simpa using hown'
              clear hown' hgrow hnx5 HW5 HN1 HN2 HN3 z1 z2 z3 z4 z5 z6 z7
              go_wp2_with fail
              go_roundw
              case rel => exact ⟨a + k, _, by go_num, by omega, hown6, by rw [List.length_append, List.length_append, hlt2]; simp; omega, hnext, hnx6⟩
              case measure => simp [intOf]; omega
          · have u1 : ¬ (k : Int) < 128 := by omega
            have HF : IsPlain (l.drop a) k := ⟨hk2, by omega, hall.out, .inr (.inl (by omega))⟩
            have HW4 := HW3
            have hnx4 := hnx3
            clear hall hnx3 HW3
            have hlt2 : ((l.drop a).take k).length = k := by rw [List.length_take]; omega
            have f1 : IntKind.u8.wrap ((k : Int) - 1) = (k : Int) - 1 := u8_in (by omega) (by omega)
            have f2 : IntKind.i64.wrap ((k : Int) - 1) = (k : Int) - 1 := IntWalk.i64_in _ (by omega)
            have hnext : Hid (∀ s, ShortOf (l.drop (a + k)) s → ShortOf l (((out ++ [(k : Int) - 1]) ++ (l.drop a).take k) ++ s)) := Lib.hid (fun s hs => by
              have h1 := ShortOf.plain (l := l.drop a) (s := s) (n := k) (by omega) hrun hn3 HF hk1 (by rw [List.drop_drop]; exact hs)
              have := hfor.out _ h1
              simpa using this)
            go_wp2_with (first
              | (at_builtin; refine wpList_append_own _ rfl _ _ 28 rfl w.heap.size 5 i0 (.int .u8 0) 1 1 und_bytes hi hz0 hz1 hz2 rfl (by decide) _ _ _ rfl (HW4.out.alloc _) _ 1 1 [u8v ((k : Int) - 1)] rfl rfl ?c1 ?c2 ?c3 ?c4 ?c5 ?_)
              | fail)
            try (case c1 =>
              intro j u hj
              match j, hj with
              | 0, hj => simp at hj; subst hj; exact cell_new rfl)
            case c2 => first | rfl | (intro u hu; simp at hu; subst hu; rfl)
            case c3 => unfold maxLen; omega
            case c4 => omega
            case c5 => have := hnx4.size; simp; omega
            intro v5 w5 hown' hgrow _
            have hnx5 : Below w.heap.size w w5 := (hnx4.alloc hnx4.size _).grown hgrow (by have := hnx4.size; simp; omega) (fun j hj => (HW4.out.lt j hj).1)
            have hown5 : OwnU w5 w.heap.size v5 (out ++ [(k : Int) - 1]) := by
              unfold OwnU
              rw [List.length_append, List.map_append]; exact hown'
            have HW5 := Lib.hid hown5
            clear hown' hgrow hnx4 HW4 hown5
            obtain ⟨n1, n2', n3⟩ := slice_news (HO.out.below hnx5) a k (by omega)
            have HN1 := Lib.hid n1
            have HN2 := Lib.hid n2'
            have HN3 := Lib.hid n3
            clear n1 n2' n3
            have z1 : (0 : Int) ≤ (a : Int) + (k : Int) := by omega
            have z2 : (a : Int) + (k : Int) ≤ (cap : Int) := by omega
            have z3 : (a : Int) ≤ (a : Int) + (k : Int) := by omega
            have z4 : ((a : Int) + (k : Int)).toNat - a = k := by omega
            have z5 : ¬ cap = a := by omega
            have z6 : max ((a : Int) + (k : Int)) 0 = (a : Int) + (k : Int) := by omega
            have z7 : IntKind.i64.wrap (a : Int) = (a : Int) := IntWalk.i64_in _ (by omega)
            go_wp2_with (first
              | (at_builtin; refine wpList_append_own _ rfl _ _ 28 rfl w.heap.size 5 i0 (.int .u8 0) 1 1 und_bytes hi hz0 hz1 hz2 rfl (by decide) _ _ _ rfl HW5.out ⟨g, a, none⟩ k _ (((l.drop a).take k).map u8v) rfl HN1.out HN2.out HN3.out ?c3 ?c4 ?c5 ?_)
              | fail)
            case c3 => rw [List.length_append]; unfold maxLen; simp; omega
            case c4 => rw [List.length_append]; simp; omega
            case c5 => exact hnx5.size
            intro v6 w6 hown' hgrow _
            have hnx6 : Below w.heap.size w w6 := hnx5.grown hgrow hnx5.size (fun j hj => (HW5.out.lt j hj).1)
            have hown6 : OwnU w6 w.heap.size v6 ((out ++ [(k : Int) - 1]) ++ (l.drop a).take k) := by
              have hlen6 : ((out ++ [(k : Int) - 1]) ++ (l.drop a).take k).length = out.length + 1 + k := by rw [List.length_append, hlt2, List.length_append]; rfl
              have hmap6 : ((out ++ [(k : Int) - 1]) ++ (l.drop a).take k).map u8v = out.map u8v ++ u8v ((k : Int) - 1) :: ((l.map u8v).drop a).take k := by simp
              unfold OwnU
              rw [hlen6, hmap6]
              first | exact hown' | simpa using hown'
            clear hown' hgrow hnx5 HW5 HN1 HN2 HN3 z1 z2 z3 z4 z5 z6 z7
            go_wp2_with fail
            go_roundw
            case rel => exact ⟨a + k, _, by go_num, by omega, hown6, by rw [List.length_append, List.length_append, hlt2]; simp; omega, hnext, hnx6⟩
            case measure => simp [intOf]; omega
    · have hae : a = l.length := by omega
      subst hae
      have hF := hfor.out [] (by rw [List.drop_length]; exact ShortOf.nil)
      rw [List.append_nil] at hF
      have HF := Lib.hid hF
      clear hfor hF
      go_wp2_with fail
      go_returns
      exact ⟨_, out, by first | rfl | (simp; done), HF.out, HW.out, hnx⟩
end Go.Proofs.Ytfdmiaoljepcmaa
