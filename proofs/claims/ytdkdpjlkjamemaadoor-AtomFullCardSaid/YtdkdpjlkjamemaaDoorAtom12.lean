/- Layer 9: a round in which a name is asked for, on the table in a variable. -/
import Derived.Test.YtdkdpjlkjamemaaDoorAtom11
import Derived.Deep.RegionWith
import Derived.BigRegion
import Derived.Deep.RegionHeld3
namespace Go.Proofs.YtdkdpjlkjamemaaDoor
open Go Go.RowKit Go.Maps
set_option linter.unusedSimpArgs false
set_option linter.unusedVariables false
theorem internL_len (more : List B) (s : B) (only : Bool) : (internL more s only).1.length ≤ more.length + 1 := by
  unfold internL
  repeat' split
  all_goals simp
/-- All names, as a slice with at least ten. -/
def AllS (w : World) (b off n cap : Nat) (l : List B) : Prop := n = l.length ∧ n ≤ cap ∧ cap ≤ maxLen ∧ b < w.heap.size ∧ LayS w b off l
theorem AllS.below {w w' : World} {b off n cap : Nat} {l : List B} (h : AllS w b off n cap l) (hb : Below w.heap.size w w') : AllS w' b off n cap l :=
  ⟨h.1, h.2.1, h.2.2.1, Nat.lt_of_lt_of_le h.2.2.2.1 hb.size, h.2.2.2.2.below hb⟩
theorem allS {w : World} {v : Value} {more : List B} (h : IsStrs w v (knownL ++ more)) : ∃ b off cap n, v = .slice (some ⟨b, off, none⟩) n cap ∧ 10 ≤ n ∧ AllS w b off n cap (knownL ++ more) := by
  have hlen : (knownL ++ more).length = 10 + more.length := by rw [List.length_append]; rfl
  rcases h with ⟨_, _, _, h⟩ | ⟨b, off, cap, rfl, h1, h2, h3, h4, h5⟩
  · rw [h] at hlen; simp at hlen; omega
  · exact ⟨b, off, cap, _, rfl, by omega, rfl, h2, h3, h4, h5⟩
theorem takeS {w : World} {b off n cap : Nat} {more : List B} (h : AllS w b off n cap (knownL ++ more)) : IsStrs w (.slice (some ⟨b, off, none⟩) 10 cap) knownL := by
  obtain ⟨h1, h2, h3, h4, h5⟩ := h
  have hlen : (knownL ++ more).length = 10 + more.length := by rw [List.length_append]; rfl
  refine Or.inr ⟨b, off, cap, rfl, by decide, by show 10 ≤ cap; omega, h3, h4, fun k s hk => h5 k s ?_⟩
  rw [List.getElem?_append_left (List.getElem?_eq_some_iff.mp hk).1]; exact hk
/-- What holds in the region behind the loop. -/
def KnS (w : World) (c : Nat) (a : Option Addr) (cap : Nat) (m : Option Nat) (more : List B) (ab ao n acap : Nat) (W : World) : Prop :=
  Below w.heap.size w W ∧ AllS W ab ao n acap (knownL ++ more) ∧ TabLo (c + 1) W (.slice a more.length cap) (.map m) more ∧ W.cell? ⟨c, 0, none⟩ = some (.slice a more.length cap) ∧ W.cell? ⟨c, 1, none⟩ = some (.map m)
theorem KnS.step {w W W' : World} {c : Nat} {a : Option Addr} {cap : Nat} {m : Option Nat} {more : List B} {ab ao n acap : Nat} (h : KnS w c a cap m more ab ao n acap W) (hb : Below W.heap.size W W') : KnS w c a cap m more ab ao n acap W' :=
  ⟨q_step h.1 hb, h.2.1.below hb, h.2.2.1.below hb, cell_below hb h.2.2.2.1, cell_below hb h.2.2.2.2⟩
theorem KnS.drew {w W : World} {c : Nat} {a : Option Addr} {cap : Nat} {m : Option Nat} {more : List B} {ab ao n acap : Nat} (h : KnS w c a cap m more ab ao n acap W) : KnS w c a cap m more ab ao n acap W.drew := h.step (Below.refl _ _).drew
theorem nameL_known (more : List B) (g : Nat) (h1 : 1 ≤ g) (h2 : g ≤ 10) : nameL (knownL ++ more) g = (knownL.getD (g - 1) [], true) := by
  have hlen : (knownL ++ more).length = 10 + more.length := by rw [List.length_append]; rfl
  unfold nameL
  rw [if_pos ⟨by omega, by omega⟩, Int.toNat_natCast]
  simp only [List.getD_eq_getElem?_getD]
  rw [List.getElem?_append_left (by show g - 1 < 10; omega)]
theorem name_incr (sv mv : Value) (more : List B) (w : World) (hs : RowAt 0 knownCells w) (hml : more.length ≤ 100000) (hT : TabOf w sv mv more) :
    Calls Tryd.prog 17 #[.agg #[sv, mv], u3 7] w fun e w' => e = .returned (.tuple #[strV [105, 110, 99, 114], .bool true]) ∧ Below w.heap.size w w' :=
  (name_any sv mv more 7 w hs hml hT (by decide) (by decide)).mono fun _ _ h => ⟨by rw [h.1, show nameL (knownL ++ more) 7 = ([105, 110, 99, 114], true) from nameL_known more 7 (by decide) (by decide)], h.2⟩
theorem name_close (sv mv : Value) (more : List B) (w : World) (hs : RowAt 0 knownCells w) (hml : more.length ≤ 100000) (hT : TabOf w sv mv more) :
    Calls Tryd.prog 17 #[.agg #[sv, mv], u3 10] w fun e w' => e = .returned (.tuple #[strV [99, 108, 111, 115, 101], .bool true]) ∧ Below w.heap.size w w' :=
  (name_any sv mv more 10 w hs hml hT (by decide) (by decide)).mono fun _ _ h => ⟨by rw [h.1, show nameL (knownL ++ more) 10 = ([99, 108, 111, 115, 101], true) from nameL_known more 10 (by decide) (by decide)], h.2⟩
theorem rsame_known (v u : Value) (w : World) (h1 : IsStrs w v knownL) (h2 : IsStrs w u knownL) :
    Calls Tryd.prog 14 #[v, u] w fun e w' => e = .returned (.bool true) ∧ Below w.heap.size w w' :=
  (rsame_any v u knownL knownL w h1 h2 (by decide)).mono fun _ _ h => ⟨by rw [h.1]; simp, h.2⟩
theorem isStrs_pos {w : World} {a : Option Addr} {n cap : Nat} {ss : List B} (h : IsStrs w (.slice a n cap) ss) (hp : 0 < ss.length) : ∃ b off, a = some ⟨b, off, none⟩ ∧ ss.length ≤ cap ∧ cap ≤ maxLen ∧ b < w.heap.size ∧ LayS w b off ss := by
  rcases h with ⟨_, _, _, h⟩ | ⟨b, off, cap', h1, h2, h3, h4, h5, h6⟩
  · subst h; simp at hp
  · cases h1; exact ⟨b, off, rfl, h3, h4, h5, h6⟩
def AtB (w : World) (c : Nat) (more : List B) (wr : World) : Prop :=
  ∃ a cap m, Below w.heap.size w wr ∧ Blk wr c [.slice a more.length cap, .map m] ∧ TabLo (c + 1) wr (.slice a more.length cap) (.map m) more
set_option maxRecDepth 100000 in
set_option maxHeartbeats 700000 in
theorem lknown_any (a0 : Option Addr) (cap : Nat) (ss : List B) (w : World) (hs : RowAt 0 knownCells w) (hl : IsStrs w (.slice a0 ss.length cap) ss) :
    Calls Tryd.prog 7 #[.slice a0 ss.length cap] w fun e w' => e = .returned (.bool true) ∧ Below w.heap.size w w' := by
  have HS := Lib.hid hs
  have HIS := Lib.hid hl
  clear hs hl
  go_enter Tryd.func7, Tryd.ntmps7
  go_wp2_with fail
  refine (awake09 _ HS.out).mono ?_
  rintro e w1 ⟨rfl, hq1⟩
  go_wp2_with fail
  refine (short_any _ ss 40 _ (HIS.out.below hq1) (by decide)).mono ?_
  rintro e w2 ⟨r, rfl, hr, rfl⟩
  cases r with
  | false =>
    go_wp2_with fail
    go_returns
    exact ⟨rfl, hq1⟩
  | true =>
    obtain ⟨hl40, hs300⟩ := hr rfl
    have HS3 := Lib.hid hs300
    clear hs300 hr
    go_wp2_with fail
    have hcw := hq1.size
    refine code_world (fun W => AtB w w1.heap.size [] W) ⟨none, 0, none, by (repeat' (first | with_reducible exact Below.refl _ _ | with_reducible assumption | with_reducible refine q_alloc ?_ _ | with_reducible refine q_drew ?_ | with_reducible refine q_drewN _ ?_ | with_reducible refine q_setCell ?_ ?_ _ | (left; simp; done) | (right; simp; done) | (right; dsimp only; omega) | (left; dsimp only; omega))), Blk.new rfl, tab_zero _⟩ ?_
    intro W2 hA2
    clear hq1
    generalize w1.heap.size = c at hcw hA2 ⊢
    go_loopw [4] (fun i wr => ∃ (k : Nat) (more : List B), k ≤ ss.length ∧ i = .int .i64 k ∧ more.length ≤ k ∧ AtB w c more wr)
      (fun i _ => ss.length - (intOf i).toNat)
    case atStart => exact ⟨0, [], by omega, rfl, by simp, hA2⟩
    case round =>
      obtain ⟨k, more, hk, rfl, hmk, a, cap2, m, hq, hblk, hT⟩ := hrel
      by_cases hlt : k < ss.length
      · have hlk : ss[k]? = some ss[k] := List.getElem?_eq_getElem hlt
        obtain ⟨b, off, rfl, hcap, hcm, hb, hL⟩ := isStrs_pos HIS.out (by omega)
        have d0 := hL.below hq k _ hlk
        clear hL
        have hs3 := HS3.out _ (List.getElem_mem hlt)
        clear hlk
        generalize ss[k] = s at d0 hs3
        have c0 := hblk.cell 0 rfl
        have c1 := hblk.cell 1 rfl
        have z0 := hblk.lt
        have z1 := block_lt_of_cell d0
        dsimp only at z1
        have f0 := hblk.froz 0 rfl
        have f1 := hblk.froz 1 rfl
        go_upto_region 9 with fail
        go_region_with (first
          | (go_at_call 12; refine (internT_any (c + 1) _ _ more s false _ ?_ (by omega) (by omega) ?_ ?_).mono ?_; (first | exact HS.out.below hq | exact (HS.out.below hq).drew); (first | exact hT | exact hT.below (Below.refl _ _).drew); (first | exact z0 | (simp; omega)); rintro e w5 ⟨a5, cap5, m5, rfl, hT5, hb⟩; have hb' : Below wr.heap.size wr w5 := (by first | exact hb | exact below_drew hb); have hblk5 := hblk.below hb'; have hq5 := q_step hq hb'; have c0 := hblk5.cell 0 rfl; have c1 := hblk5.cell 1 rfl; have f0 := hblk5.froz 0 rfl; have f1 := hblk5.froz 1 rfl; have z0 := hblk5.lt))
        all_goals
          go_wp2_with fail
          go_roundw
          case rel =>
            exact ⟨k + 1, (internL more s false).1, by go_num, by go_num, Nat.le_trans (internL_len _ _ _) (by omega), a5, cap5, m5, set2_q hq5 hcw, hblk5.set2, (hT5.set (by omega)).set (by omega)⟩
          case measure => simp [intOf]; omega
      · obtain rfl : k = ss.length := by omega
        clear HIS HS3 hlt hk
        have hml : more.length ≤ 100000 := by omega
        clear hmk
        have c0 := hblk.cell 0 rfl
        have c1 := hblk.cell 1 rfl
        have z0 := hblk.lt
        clear hblk
        go_wp2_with fail
        refine (all_any _ _ more _ (HS.out.below hq) hml hT.1).mono ?_
        rintro e w3 ⟨v, rfl, hA0, hb⟩
        replace hq := q_step hq hb
        replace hT := hT.below hb
        replace c0 := cell_below hb c0
        replace c1 := cell_below hb c1
        replace z0 := block_lt_of_cell c0
        clear hb
        obtain ⟨ab, ao, acap, n10, rfl, hn10, hA⟩ := allS hA0
        clear hA0
        have hn1 : ¬ ((n10 : Int) < 10) := by omega
        have hn2 : decide ((n10 : Int) < 10) = false := decide_eq_false hn1
        have hn3 : (10 : Int) ≤ n10 := by omega
        have hn4 : (10 : Int) ≤ acap := by have := hA.2.1; omega
        have J : KnS w c a cap2 m more ab ao n10 acap w3 := ⟨hq, hA, hT, c0, c1⟩
        clear hq hA hT c0 c1 z0
        have G1 := Lib.hid (rfl : (1 : Nat) = 1)
        have G2 := Lib.hid (rfl : (2 : Nat) = 2)
        have G3 := Lib.hid (rfl : (3 : Nat) = 3)
        have G4 := Lib.hid (rfl : (4 : Nat) = 4)
        have G5 := Lib.hid (rfl : (5 : Nat) = 5)
        go_upto_region 11 with fail
        go_cut [49] from 11 (fun s wx => s = .bool false ∧ KnS w c a cap2 m more ab ao n10 acap wx)
        case first =>
          go_region_held3 (fun w' => KnS w c a cap2 m more ab ao n10 acap w')
          (first | exact J | exact J.drew)
          (first
          | (go_at_call 20; have g1 := G1; refine (known_any _ ?_).mono ?_; (first | exact HS.out.below J.1 | exact (HS.out.below J.1).drew); rintro e w5 ⟨kv, rfl, hkv0, hb⟩; (first | have J5 := J.step hb | (replace hb := below_drew hb; have J5 := J.step hb)); replace J := J5; have hkv := ownS_is hkv0; clear hkv0 hb g1 G1 J5)
          | (go_at_call 11; have g2 := G2; refine (rknown_any _).mono ?_; skip; rintro e w5 ⟨rv, rfl, hrv0, hb⟩; (first | have J5 := J.step hb | (replace hb := below_drew hb; have J5 := J.step hb)); replace J := J5; replace hkv := hkv.below hb; have hrv := ownS_is hrv0; clear hrv0 hb g2 G2 J5)
          | (go_at_call 14; have g3 := G3; refine (rsame_known _ _ _ ?_ ?_).mono ?_; (first | exact hkv | exact hkv.below (Below.refl _ _).drew); (first | exact hrv | exact hrv.below (Below.refl _ _).drew); rintro e w5 ⟨rfl, hb⟩; (first | have J5 := J.step hb | (replace hb := below_drew hb; have J5 := J.step hb)); replace J := J5; clear hkv hrv hb g3 G3 J5)
          | (go_at_call 11; have g4 := G4; refine (rknown_any _).mono ?_; skip; rintro e w5 ⟨rv, rfl, hrv0, hb⟩; (first | have J5 := J.step hb | (replace hb := below_drew hb; have J5 := J.step hb)); replace J := J5; have hrv := ownS_is hrv0; clear hrv0 hb g4 G4 J5)
          | (go_at_call 14; have g5 := G5; refine (rsame_known _ _ _ ?_ ?_).mono ?_; (first | exact takeS J.2.1 | exact takeS (J.2.1.below (Below.refl _ _).drew)); (first | exact hrv | exact hrv.below (Below.refl _ _).drew); rintro e w5 ⟨rfl, hb⟩; (first | have J5 := J.step hb | (replace hb := below_drew hb; have J5 := J.step hb)); replace J := J5; clear hrv hb g5 G5 J5)
          )
          all_goals (go_wp2_with fail; go_meet; exact ⟨by first | rfl | simp, J⟩)
        case rest =>
          obtain ⟨rfl, hq, hA, hT, c0, c1⟩ := hcut
          have z0 := block_lt_of_cell c0
          dsimp only at z0
          clear hA
          go_wp2_with fail
          refine (name_incr _ _ more _ (HS.out.below hq) hml hT.1).mono ?_
          rintro e w8 ⟨rfl, hb⟩
          replace hq := q_step hq hb
          replace hT := hT.below hb
          replace c0 := cell_below hb c0
          replace c1 := cell_below hb c1
          replace z0 := block_lt_of_cell c0
          dsimp only at z0
          clear hb
          go_wp2_with fail
          refine (name_close _ _ more _ (HS.out.below hq) hml hT.1).mono ?_
          rintro e w9 ⟨rfl, hb⟩
          replace hq := q_step hq hb
          clear hb
          go_wp2_with fail
          go_returns
          exact ⟨rfl, hq⟩
end Go.Proofs.YtdkdpjlkjamemaaDoor
