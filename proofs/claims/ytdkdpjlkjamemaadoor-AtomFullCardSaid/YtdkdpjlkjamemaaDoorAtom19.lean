/- Layer 9: a full table: the walk. -/
import Derived.Test.YtdkdpjlkjamemaaDoorAtom15
import Derived.Test.YtdkdpjlkjamemaaDoorAtom18
import Derived.Maps.AppendAt
import Derived.Deep.RegionHeld3
namespace Go.Proofs.YtdkdpjlkjamemaaDoor
open Go Go.RowKit Go.Maps
set_option linter.unusedSimpArgs false
set_option linter.unusedVariables false
theorem stick {w : World} {p : Addr} {v : Value} (h : w.cell? p = some v) : ∀ W, Below w.heap.size w W → W.cell? p = some v := fun _ hb => cell_below hb h
theorem ownS_below {w w' : World} {B0 : Nat} {v : Value} {rs : List B} (h : OwnS w B0 v rs) (hb : Below w.heap.size w w') : OwnS w' B0 v rs := by
  obtain ⟨h0, hcase⟩ := h
  refine ⟨h0, ?_⟩
  rcases hcase with h1 | ⟨g, cap, cur, hv, hg, hh, hr⟩
  · exact .inl h1
  · exact .inr ⟨g, cap, cur, hv, hg, (hb.block g (Array.getElem?_eq_some_iff.1 hh).1).trans hh, hr⟩
theorem ownS_set {w : World} {B0 c j : Nat} {v u : Value} {rs : List B} (h : OwnS w B0 v rs) (hc : c < B0) : OwnS (w.setCell ⟨c, j, none⟩ u) B0 v rs := by
  obtain ⟨h0, hcase⟩ := h
  refine ⟨h0, ?_⟩
  rcases hcase with h1 | ⟨g, cap, cur, hv, hg, hh, hr⟩
  · exact .inl h1
  · exact .inr ⟨g, cap, cur, hv, hg, (Below.heap_setCell _ _ _ _ (by show g ≠ c; omega)).trans hh, hr⟩
theorem tabOf_grown {w w' : World} {b : Nat} {sv mv : Value} {more : List B} (h : TabOf w sv mv more) (hg : w.grownBy w' (some b)) (hv : VNe b sv) (hm : MNe b mv) : TabOf w' sv mv more := by
  rcases h with h | ⟨h0, ⟨b1, off, cap, e1, h2, h3, h4, h5⟩, mb, D, e2, h7, h8⟩
  · exact Or.inl h
  · have n1 := hv _ _ _ _ e1
    have n2 := hm _ e2
    refine Or.inr ⟨h0, ⟨b1, off, cap, e1, h2, h3, Nat.lt_of_lt_of_le h4 hg.size, fun k s hk => ?_⟩, mb, D, e2, h7.kept hg (by intro e; exact n2 (Option.some.inj e)), h8⟩
    exact (World.cell?_of_block (w := w) (hg.block b1 h4 (by intro e; exact n1 (Option.some.inj e)))).trans (h5 k s hk)
theorem TabX.grown {X : Nat → Prop} {w w' : World} {b : Nat} {sv mv : Value} {more : List B} (h : TabX X w sv mv more) (hg : w.grownBy w' (some b)) (hb : X b) : TabX X w' sv mv more :=
  ⟨tabOf_grown h.1 hg (h.2 b hb).1 (h.2 b hb).2, h.2⟩
theorem TabX.imp {X Y : Nat → Prop} {w : World} {sv mv : Value} {more : List B} (h : TabX X w sv mv more) (hy : ∀ x, Y x → X x) : TabX Y w sv mv more := ⟨h.1, fun c hc => h.2 c (hy c hc)⟩
/-- The loop's state. -/
def FuS (w : World) (c g : Nat) (cap : Nat) (more : List B) (wr : World) : Prop :=
  Below w.heap.size w wr ∧ VarX (fun x => x = c ∨ x = g) c more wr ∧ OwnS wr (c + 1) (.slice (some ⟨g, 0, none⟩) (10 + more.length) cap) (knownL ++ more)
theorem internL_num2 (more : List B) (s : B) (o : Bool) (h : more.length ≤ 2000) : 0 ≤ (internL more s o).2.1 ∧ (internL more s o).2.1 ≤ 3000 := by
  have h1 := numT_le more s
  unfold internL
  repeat' split
  all_goals (dsimp only; omega)
theorem kn_len (more : List B) : (knownL ++ more).length = 10 + more.length := by rw [List.length_append]; rfl
set_option maxRecDepth 100000 in
set_option maxHeartbeats 60000000 in
theorem lfull_any (n : Int) (nm : B) (w : World) (hs : RowAt 0 knownCells w) (hn0 : 0 ≤ n) (hn1 : n < 65536) :
    Calls Tryd.prog 6 #[.int .u16 n, strV nm] w fun e w' => e = .returned (.bool true) ∧ Below w.heap.size w w' := by
  obtain ⟨i0, hi, hz0, hz1, hz2⟩ := info_parts info_str
  have HS := Lib.hid hs
  clear hs
  go_enter Tryd.func6, Tryd.ntmps6
  go_wp2_with fail
  refine (awake09 _ HS.out).mono ?_
  rintro e w1 ⟨rfl, hq1⟩
  by_cases h300 : 300 < nm.length
  · have h1 : (300 : Int) < nm.length := by omega
    go_wp2_with fail
    go_returns
    exact ⟨rfl, hq1⟩
  have h1 : ¬ (300 : Int) < nm.length := by omega
  obtain ⟨N, hN⟩ : ∃ N : Nat, 1010 + n.toNat % 16 = N := ⟨_, rfl⟩
  have hNa : 1010 ≤ N := by omega
  have hNb : N ≤ 1025 := by omega
  have f1 : IntKind.i64.wrap n = n := IntWalk.i64_in _ (by omega)
  have f2 : n.tmod 16 = ((N - 1010 : Nat) : Int) := by rw [Int.tmod_eq_emod_of_nonneg hn0]; omega
  have f3 : IntKind.i64.wrap ((N - 1010 : Nat) : Int) = ((N - 1010 : Nat) : Int) := IntWalk.i64_in _ (by omega)
  have f4 : IntKind.i64.wrap (1010 + ((N - 1010 : Nat) : Int)) = (N : Int) := by rw [show (1010 + ((N - 1010 : Nat) : Int)) = (N : Int) by omega]; exact IntWalk.i64_in _ (by omega)
  generalize ((N - 1010 : Nat) : Int) = Q at f2 f3 f4
  clear hN
  go_wp2_with fail
  refine (numbered_any N (by omega) _).mono ?_
  rintro e w3 ⟨lv, rfl, hL, hb⟩
  have hq3 := q_step hq1 hb
  clear hb hq1 f1 f2 f3 f4
  obtain ⟨lg, lcap, rfl, _, _, _, hlay⟩ := ownS_form hL (by rw [nmsL_len]; omega)
  rw [nmsL_len]
  have HLAY := Lib.hid hlay
  clear hL hlay
  go_wp2_with fail
  refine calls_world (fun W => Below w3.heap.size w3 W ∧ w3.heap.size < W.heap.size ∧ Blk W w3.heap.size [.slice none 0 0, .map none]) ⟨q_alloc (Below.refl _ _) _, by simp, Blk.new rfl⟩ ?_
  intro W4 ⟨hq4, hcz, hbl⟩
  have HS3 := Lib.hid (HS.out.below hq3)
  have HQ3 := Lib.hid hq3
  generalize hc : w3.heap.size = c at hcz hbl ⊢
  refine (rknown_any _).mono ?_
  rintro e w5 ⟨mv, rfl, hM, hb⟩
  obtain ⟨g0, cap0, rfl, _, _, hge, _⟩ := ownS_form hM (by decide)
  have hP : FuS w3 c g0 cap0 [] w5 := ⟨q_step hq4 hb, ⟨none, 0, none, hbl.below hb, tabX_zero _⟩, Joins.ownsRow_le hM (by omega)⟩
  have HC := Lib.hid hc
  clear hq3 hq4 hcz hbl hM hb hge hc HS
  go_wp2_with fail
  go_loopw [8, 9] (fun v i wr => ∃ (k g cap : Nat), k ≤ N ∧ i = .int .i64 k ∧ v = .slice (some ⟨g, 0, none⟩) (10 + min k 1014) cap ∧ FuS w3 c g cap (nmsL (min k 1014)) wr)
    (fun _ i _ => N - (intOf i).toNat)
  case atStart => exact ⟨0, g0, cap0, by omega, rfl, rfl, hP⟩
  case round =>
    clear hP
    obtain ⟨k, g, cap, hk, rfl, rfl, hq, hv, hown⟩ := hrel
    by_cases hlt : k < N
    · have d0 := stick (HLAY.out k _ (nmsL_at N k hlt))
      rw [Nat.zero_add] at d0
      have hcw : w3.heap.size ≤ c := by rw [HC.out]; exact Nat.le_refl _
      have hzg := (hown.lt g rfl)
      obtain ⟨a, capT, m, hblk, hT⟩ := hv
      have hml : (nmsL (min k 1014)).length ≤ 1014 := by rw [nmsL_len]; omega
      have hsl : (nmL k).length ≤ 100 := by show 4 ≤ 100; omega
      have hin : (k < 1014 ∧ internL (nmsL (min k 1014)) (nmL k) false = (nmsL (k + 1), (k : Int) + 11, 0) ∧ min k 1014 = k) ∨ (1014 ≤ k ∧ internL (nmsL (min k 1014)) (nmL k) false = (nmsL 1014, 0, 12) ∧ min k 1014 = 1014) := by
        by_cases h : k < 1014
        · have hm : min k 1014 = k := by omega
          rw [hm, internL_nm (by omega) h]
          exact Or.inl ⟨h, by rw [show ((11 + k : Nat) : Int) = (k : Int) + 11 by omega], rfl⟩
        · have hm : min k 1014 = 1014 := by omega
          rw [hm, internL_full (by omega) (by omega)]
          exact Or.inr ⟨by omega, rfl, rfl⟩
      generalize hmore : nmsL (min k 1014) = more at hin hml hblk hT hown
      generalize hsn : nmL k = s at d0 hin hsl
      have HIN := Lib.hid hin
      have HMO := Lib.hid hmore
      have HSN := Lib.hid hsn
      have c0 := hblk.cell 0 rfl
      have c1 := hblk.cell 1 rfl
      have z0 := hblk.lt
      have z2 := hzg.2
      have e0 := d0 _ hq
      have z1 := block_lt_of_cell e0
      dsimp only at z1
      clear hin hmore hsn d0 h300
      go_upto_region 12 with fail
      go_cut [10, 11, 12] from 35 to 76 (fun p x e wx => ∃ dd a5 cap5 m5, p = .pointer (some ⟨dd, 0, none⟩) ∧ x = u3 (internL more s false).2.1 ∧ e = i6 (internL more s false).2.2 ∧ wr.heap.size ≤ dd ∧ Below wr.heap.size wr wx ∧ Blk wx dd [.slice a5 (internL more s false).1.length cap5, .map m5] ∧ TabX (fun x => x = c ∨ x = g) wx (.slice a5 (internL more s false).1.length cap5) (.map m5) (internL more s false).1)
      case first =>
        go_region_with (first
          | (go_at_call 12; refine (internX_any (fun x => (x = c ∨ x = g) ∨ x = wr.heap.size) _ _ more s false _ ?_ (by omega) (by omega) ?_ ?_).mono ?_; exact HS3.out.below (q_step hq (by (repeat' (first | with_reducible exact Below.refl _ _ | with_reducible assumption | with_reducible refine q_alloc ?_ _ | with_reducible refine q_drew ?_ | with_reducible refine q_drewN _ ?_ | with_reducible refine q_setCell ?_ ?_ _ | (left; simp; done) | (right; simp; done) | (right; dsimp only; omega) | (left; dsimp only; omega))))); exact (hT.or (Nat.le_refl _)).below (by (repeat' (first | with_reducible exact Below.refl _ _ | with_reducible assumption | with_reducible refine q_alloc ?_ _ | with_reducible refine q_drew ?_ | with_reducible refine q_drewN _ ?_ | with_reducible refine q_setCell ?_ ?_ _ | (left; simp; done) | (right; simp; done) | (right; dsimp only; omega) | (left; dsimp only; omega)))); (rintro x ((rfl | rfl) | rfl) <;> first | (simp; done) | (simp; omega)); rintro e w5 ⟨a5, cap5, m5, rfl, hT5, hb⟩; have hb' : Below wr.heap.size wr w5 := q_step (by (repeat' (first | with_reducible exact Below.refl _ _ | with_reducible assumption | with_reducible refine q_alloc ?_ _ | with_reducible refine q_drew ?_ | with_reducible refine q_drewN _ ?_ | with_reducible refine q_setCell ?_ ?_ _ | (left; simp; done) | (right; simp; done) | (right; dsimp only; omega) | (left; dsimp only; omega)))) hb; have hd5 : Blk w5 wr.heap.size [.slice none 0 0, .map none] := Blk.below (Blk.below (Blk.new rfl) (Below.refl _ _).drew) hb; have dc0 := hd5.cell 0 rfl; have dc1 := hd5.cell 1 rfl; have df0 := hd5.froz 0 rfl; have df1 := hd5.froz 1 rfl; have dz := hd5.lt; clear hb)
          | (go_at_call 12; refine (internX_any (fun x => x = c ∨ x = g) _ _ more s false _ ?_ (by omega) (by omega) ?_ ?_).mono ?_; exact HS3.out.below (q_step hq (by (repeat' (first | with_reducible exact Below.refl _ _ | with_reducible assumption | with_reducible refine q_alloc ?_ _ | with_reducible refine q_drew ?_ | with_reducible refine q_drewN _ ?_ | with_reducible refine q_setCell ?_ ?_ _ | (left; simp; done) | (right; simp; done) | (right; dsimp only; omega) | (left; dsimp only; omega))))); exact hT.below (by (repeat' (first | with_reducible exact Below.refl _ _ | with_reducible assumption | with_reducible refine q_alloc ?_ _ | with_reducible refine q_drew ?_ | with_reducible refine q_drewN _ ?_ | with_reducible refine q_setCell ?_ ?_ _ | (left; simp; done) | (right; simp; done) | (right; dsimp only; omega) | (left; dsimp only; omega)))); (rintro x (rfl | rfl) <;> first | exact z0 | exact z2 | (simp; omega)); rintro e w5 ⟨a5, cap5, m5, rfl, hT5, hb⟩; have hb' : Below wr.heap.size wr w5 := q_step (by (repeat' (first | with_reducible exact Below.refl _ _ | with_reducible assumption | with_reducible refine q_alloc ?_ _ | with_reducible refine q_drew ?_ | with_reducible refine q_drewN _ ?_ | with_reducible refine q_setCell ?_ ?_ _ | (left; simp; done) | (right; simp; done) | (right; dsimp only; omega) | (left; dsimp only; omega)))) hb; clear hb))
        all_goals (go_wp2_with fail; go_meet; (first | exact ⟨_, a5, cap5, m5, rfl, rfl, rfl, Nat.le_refl _, set2_q hb' (Nat.le_refl _), hd5.set2, ⟨((hT5.set (Or.inr rfl)).set (Or.inr rfl)).1, fun x hx => hT5.2 x (Or.inl hx)⟩⟩ | exact ⟨_, a5, cap5, m5, rfl, rfl, rfl, hb'.size, by (repeat' (first | with_reducible exact Below.refl _ _ | with_reducible assumption | with_reducible refine q_alloc ?_ _ | with_reducible refine q_drew ?_ | with_reducible refine q_drewN _ ?_ | with_reducible refine q_setCell ?_ ?_ _ | (left; simp; done) | (right; simp; done) | (right; dsimp only; omega) | (left; dsimp only; omega))), Blk.new rfl, hT5.below (q_alloc (Below.refl _ _) _)⟩))
      case rest =>
        obtain ⟨dd, a5, cap5, m5, rfl, rfl, rfl, hdd, hb, hu, hT5⟩ := hcut
        have n1 : ¬ dd = c := by omega
        have n2 : ¬ dd = g := by omega
        have n3 : ¬ c = g := by omega
        replace hq := q_step hq hb
        replace hblk := hblk.below hb
        replace hown := ownS_below hown hb
        replace e0 := cell_below hb e0
        clear hb c0 c1 z0 z1 z2 hT hdd hzg
        rcases HIN.out with ⟨hk1, hin, hmn⟩ | ⟨hk1, hin, hmn⟩
        · rw [hin] at hu hT5 ⊢
          dsimp only at hu hT5 ⊢
          have hml2 : more.length = k := by rw [← HMO.out, hmn, nmsL_len]
          have f5 : IntKind.i64.wrap ((k : Int) + 11) = (k : Int) + 11 := IntWalk.i64_in _ (by omega)
          have f6 : (k : Int) + 11 ≤ 1024 := by omega
          have z1 := block_lt_of_cell e0
          dsimp only at z1
          have hstep : nmsL (k + 1) = more ++ [s] := by rw [nmsL_step, ← HMO.out, hmn, HSN.out]
          have HST := Lib.hid hstep
          have HM2 := Lib.hid hml2
          have HMN := Lib.hid hmn
          have HK1 := Lib.hid hk1
          clear hin hstep hml hk1
          rw [hml2] at hown
          rw [hmn]
          clear hmn hml2
          go_wp2_with (at_builtin; refine wpList_append_own_at _ rfl _ _ 22 rfl (c + 1) 9 i0 (.string ⟨#[]⟩) 1 16 und_strs hi hz0 hz1 hz2 rfl (by decide) _ _ _ rfl (hown.alloc _) _ 1 1 [strV s] rfl rfl strV_cells strV_one ?c3 ?c4 ?c5 ?_)
          case c3 => rw [kn_len, HM2.out]; unfold maxLen; omega
          case c4 => rw [kn_len, HM2.out]; omega
          case c5 => have := hown.lt g rfl; simp; omega
          intro v' w9 hown' hgrow _ hat
          have J9 : Below w3.heap.size w3 w9 := (hq.alloc hq.size _).grown hgrow (by have := hq.size; simp; omega) (fun j hj => by have := (hown.lt j hj).1; omega)
          have hown9 : OwnS w9 (c + 1) v' (knownL ++ nmsL (k + 1)) := by
            unfold OwnS
            rw [HST.out]
            have h8 := hown'
            simp only [List.length_append, List.map_append, List.map_cons, List.map_nil, List.length_cons, List.length_nil, List.append_assoc] at h8 ⊢
            rw [← Nat.add_assoc]
            exact h8
          have hgrow2 := hgrow
          replace hgrow2 : World.grownBy _ w9 (some g) := hgrow2
          obtain ⟨g', cap', rfl, _, _, hgc, _⟩ := ownS_form hown9 (by rw [kn_len]; omega)
          have hlen9 : (knownL ++ nmsL (k + 1)).length = 10 + (k + 1) := by rw [kn_len, nmsL_len]
          rw [hlen9] at hown9 ⊢
          have hblk9 := (hblk.alloc _).grown hgrow2 n3
          have hu9 := (hu.alloc _).grown hgrow2 n2
          have hT9 : TabX (fun x => x = c ∨ x = g') w9 (.slice a5 (nmsL (k + 1)).length cap5) (.map m5) (nmsL (k + 1)) := by
            have hat2 : g' = g ∨ g' = _ := hat.elim (fun h => Or.inl (Option.some.inj h)) (fun h => Or.inr (Option.some.inj h))
            rcases hat2 with rfl | rfl
            · exact (hT5.below (q_alloc (Below.refl _ _) _)).grown hgrow2 (Or.inr rfl)
            · exact (((hT5.below (q_alloc (Below.refl _ _) _)).or (Nat.le_refl _)).grown hgrow2 (Or.inl (Or.inr rfl))).imp (fun x hx => hx.elim (fun h => Or.inl (Or.inl h)) (fun h => Or.inr (by rw [h]; simp)))
          clear hown' hgrow hgrow2 hat hown hblk hu hT5 hq e0 z1
          have c0 := hblk9.cell 0 rfl
          have c1 := hblk9.cell 1 rfl
          have f0 := hblk9.froz 0 rfl
          have f1 := hblk9.froz 1 rfl
          have z0 := hblk9.lt
          have u0 := hu9.cell 0 rfl
          have u1 := hu9.cell 1 rfl
          have z3 := hu9.lt
          go_wp2_with fail
          have hmn1 : min (k + 1) 1014 = k + 1 := by have := HK1.out; omega
          go_roundw
          case rel =>
            refine ⟨k + 1, g', cap', by omega, by go_num, by rw [hmn1], ?_⟩
            rw [hmn1]
            exact ⟨set2_q J9 hcw, VarX.put hblk9 hT9 (Or.inl rfl), by rw [nmsL_len]; exact ownS_set (ownS_set hown9 (Nat.lt_succ_self _)) (Nat.lt_succ_self _)⟩
          case measure => simp [intOf]; omega
        · rw [hin] at hu hT5 ⊢
          dsimp only at hu hT5 ⊢
          have hml2 : more.length = 1014 := by rw [← HMO.out, hmn, nmsL_len]
          have f5 : IntKind.i64.wrap ((k : Int) + 11) = (k : Int) + 11 := IntWalk.i64_in _ (by omega)
          have f6 : ¬ (k : Int) + 11 ≤ 1024 := by omega
          have HM2 := Lib.hid hml2
          have HK1 := Lib.hid hk1
          rw [hml2] at hown
          rw [hmn]
          have hmo := HMO.out
          rw [hmn] at hmo
          have HMO2 := Lib.hid hmo
          clear hin hml hk1 hmn hml2 e0 hmo
          have c0 := hblk.cell 0 rfl
          have c1 := hblk.cell 1 rfl
          have f0 := hblk.froz 0 rfl
          have f1 := hblk.froz 1 rfl
          have z0 := hblk.lt
          have u0 := hu.cell 0 rfl
          have u1 := hu.cell 1 rfl
          have z3 := hu.lt
          go_wp2_with fail
          have hmn1 : min (k + 1) 1014 = 1014 := by have := HK1.out; omega
          go_roundw
          case rel =>
            refine ⟨k + 1, g, cap, by omega, by go_num, by rw [hmn1], ?_⟩
            rw [hmn1]
            exact ⟨set2_q hq hcw, VarX.put hblk hT5 (Or.inl rfl), by rw [nmsL_len, HMO2.out]; exact ownS_set (ownS_set hown (Nat.lt_succ_self _)) (Nat.lt_succ_self _)⟩
          case measure => simp [intOf]; omega
    · obtain rfl : k = N := by omega
      clear hlt hk HLAY
      obtain ⟨a, capT, m, hblk, hT⟩ := hv
      obtain ⟨P, hP⟩ : ∃ P, min k 1014 = P := ⟨_, rfl⟩
      rw [hP] at hblk hT hown ⊢
      have hP2 : P ≤ 1014 := by omega
      have hml : (nmsL P).length = P := nmsL_len P
      generalize nmsL P = more at hblk hT hown hml
      rw [hml] at hblk hT hown
      clear hP h1
      obtain ⟨W0, rfl⟩ : ∃ W0 : World, W0 = wr := ⟨_, rfl⟩
      have HQ0 := Lib.hid (q_step HQ3.out hq)
      have HSW := Lib.hid (HS3.out.below hq)
      have HT0 := Lib.hid hT.1
      have HST0 := Lib.hid (ownS_lo hown)
      have y0 := stick (hblk.cell 0 rfl)
      have y1 := stick (hblk.cell 1 rfl)
      have hcz := hblk.lt
      clear hblk hT hown hq HQ3 HS3
      have J : Below W0.heap.size W0 W0 := Below.refl _ _
      have hkl := kn_len more
      have hi1 : (internL more nm false).1.length ≤ more.length + 1 := internL_len _ _ _
      have hi2 : more.length ≤ (internL more nm false).1.length := (internL_prefix more nm false).length_le
      have hi3 := internL_num2 more nm false (by omega)
      go_wp2_with fail
      refine (internT_any 0 _ _ more nm false _ (HSW.out) (by omega) (by omega) ⟨HT0.out, fun _ _ _ _ _ => Nat.zero_le _, fun _ _ => Nat.zero_le _⟩ (Nat.zero_le _)).mono ?_
      rintro e w6 ⟨a6, cap6, m6, rfl, hT6, hb⟩
      replace J := q_step J hb
      clear hb
      have hsame := intern_same more nm false
      generalize hm6 : (internL more nm false).1 = more6 at hi1 hi2 hT6 hsame ⊢
      generalize hA6 : (internL more nm false).2.1 = A at hi3 ⊢
      generalize hE6 : (internL more nm false).2.2 = E
      have hpair : (internL more nm false).2 = (A, E) := by rw [← hA6, ← hE6]
      rw [hpair] at hsame
      have HSA := Lib.hid hsame
      have f1 : IntKind.i64.wrap A = A := IntWalk.i64_in _ (by omega)
      clear hsame hpair hm6 hA6 hE6 hi3
      go_wp2_with fail
      refine calls_world (fun W => Below W0.heap.size W0 W ∧ Blk W w6.heap.size [.slice a6 more6.length cap6, .map m6] ∧ TabOf W (.slice a6 more6.length cap6) (.map m6) more6) ⟨by (repeat' (first | with_reducible exact Below.refl _ _ | with_reducible assumption | with_reducible refine q_alloc ?_ _ | with_reducible refine q_drew ?_ | with_reducible refine q_drewN _ ?_ | with_reducible refine q_setCell ?_ ?_ _ | (left; simp; done) | (right; simp; done) | (right; dsimp only; omega) | (left; dsimp only; omega))), Blk.new rfl, hT6.1.below (q_alloc (Below.refl _ _) _)⟩ ?_
      intro W7 ⟨J, hu, hT7⟩
      clear hT6
      generalize w6.heap.size = d6 at hu ⊢
      refine (rintern_any (c + 1) _ (knownL ++ more) nm false _ (HST0.out.below J) ?_ (by omega) (by omega) (by omega)).mono ?_
      · have := J.size; omega
      rintro e w8 ⟨v', rfl, _, hb⟩
      rw [HSA.out]
      dsimp only
      replace J := q_step J hb
      replace hu := hu.below hb
      replace hT7 := hT7.below hb
      clear hb
      have c0 := y0 _ J
      have c1 := y1 _ J
      go_wp2_with fail
      refine (internT_any 0 _ _ more nm true _ (HSW.out.below J) (by omega) (by omega) ⟨HT0.out.below J, fun _ _ _ _ _ => Nat.zero_le _, fun _ _ => Nat.zero_le _⟩ (Nat.zero_le _)).mono ?_
      rintro e w9 ⟨a9, cap9, m9, rfl, _, hb⟩
      have hz9 : ((internL more nm true).2.1 = (numT more nm : Int) ∧ (internL more nm true).2.2 = 0) ∨ ((internL more nm true).2.1 = 0 ∧ (internL more nm true).2.2 = 11) := by
        unfold internL
        by_cases hn : nameB nm = true
        · rw [if_neg (by simp [hn])]
          by_cases hz : numT more nm ≠ 0
          · rw [if_pos hz]; exact Or.inl ⟨rfl, rfl⟩
          · rw [if_neg hz, if_pos rfl]
            have hz0 : numT more nm = 0 := by simpa using hz
            exact Or.inl ⟨by rw [hz0]; rfl, rfl⟩
        · rw [if_pos (by simpa using hn)]; exact Or.inr ⟨rfl, rfl⟩
      have hz8 : numT more nm ≤ 2000 := by have := numT_le more nm; omega
      generalize (internL more nm true).2.1 = A9 at hz9 ⊢
      generalize (internL more nm true).2.2 = E9 at hz9 ⊢
      generalize (internL more nm true).1 = more9
      have hfn : numT more nm = findL (knownL ++ more) nm := rfl
      generalize numT more nm = Z at hz8 hfn hz9
      have HZ9 := Lib.hid hz9
      replace J := q_step J hb
      replace hu := hu.below hb
      replace hT7 := hT7.below hb
      clear hb c0 c1 hz9
      go_upto_region 23 with fail
      refine code_world (fun W => Below W0.heap.size W0 W ∧ Blk W d6 [.slice a6 more6.length cap6, .map m6] ∧ TabOf W (.slice a6 more6.length cap6) (.map m6) more6) ⟨by (repeat' (first | with_reducible exact Below.refl _ _ | with_reducible assumption | with_reducible refine q_alloc ?_ _ | with_reducible refine q_drew ?_ | with_reducible refine q_drewN _ ?_ | with_reducible refine q_setCell ?_ ?_ _ | (left; simp; done) | (right; simp; done) | (right; dsimp only; omega) | (left; dsimp only; omega))), hu.alloc _, hT7.below (q_alloc (Below.refl _ _) _)⟩ ?_
      intro W8 ⟨J7, hu, hT7⟩
      obtain ⟨M6, hM6⟩ : ∃ M6, more6.length = M6 := ⟨_, rfl⟩
      rw [hM6] at hu hT7 hi1 hi2 ⊢
      have HQ8 := Lib.hid (q_step HQ0.out J7)
      have x0 := stick (y0 _ J7)
      have x1 := stick (y1 _ J7)
      have v0 := stick (hu.cell 0 rfl)
      have v1 := stick (hu.cell 1 rfl)
      have HT := Lib.hid (HT0.out.below J7)
      have HT6 := Lib.hid hT7
      have HIS := Lib.hid (And.left (HST0.out.below J7))
      have HB1 := Lib.hid (show more.length ≤ 100000 by omega)
      have HB2 := Lib.hid (show 10 + more.length = 10 + P by omega)
      have HB3 := Lib.hid (show more6.length ≤ 100000 by omega)
      have HB4 := Lib.hid (show 10 + more6.length = 10 + M6 by omega)
      have HB5 := Lib.hid (show (knownL ++ more).length ≤ 100000 by omega)
      have HFN := Lib.hid hfn
      have hge : P ≤ M6 := by omega
      have f2 : IntKind.i64.wrap (Z : Int) = (Z : Int) := IntWalk.i64_in _ (by omega)
      clear y0 y1 hu hT7 J7 J hi1 hi2 hM6 hz8 hfn hkl h300 hml hP2 hNa hNb hn0 hn1 hcz
      have J : Below W8.heap.size W8 W8 := Below.refl _ _
      rcases HZ9.out with ⟨rfl, rfl⟩ | ⟨rfl, rfl⟩
      · skip
        (first | (go_region_held3 (fun w' => Below W8.heap.size W8 w')
          (first | exact J | exact J.drew | exact q_alloc J _ | (exact by (repeat' (first | with_reducible exact Below.refl _ _ | with_reducible assumption | with_reducible refine q_alloc ?_ _ | with_reducible refine q_drew ?_ | with_reducible refine q_drewN _ ?_ | with_reducible refine q_setCell ?_ ?_ _ | (left; simp; done) | (right; simp; done) | (right; dsimp only; omega) | (left; dsimp only; omega)))))
          (first
        | (go_at_call 16; with_reducible refine (lentN_any (.slice a P capT) (.map m) more (10 + P) _ ?_ ?_ ?_).mono ?_; (exact HB1.out); (exact HT.out.below (by first | exact J | exact J.drew | exact q_alloc J _ | (exact by (repeat' (first | with_reducible exact Below.refl _ _ | with_reducible assumption | with_reducible refine q_alloc ?_ _ | with_reducible refine q_drew ?_ | with_reducible refine q_drewN _ ?_ | with_reducible refine q_setCell ?_ ?_ _ | (left; simp; done) | (right; simp; done) | (right; dsimp only; omega) | (left; dsimp only; omega)))))); (exact HB2.out); rintro e w5 ⟨rfl, hb⟩; have J5 : Below W8.heap.size W8 w5 := q_step (by first | exact J | exact J.drew | exact q_alloc J _ | (exact by (repeat' (first | with_reducible exact Below.refl _ _ | with_reducible assumption | with_reducible refine q_alloc ?_ _ | with_reducible refine q_drew ?_ | with_reducible refine q_drewN _ ?_ | with_reducible refine q_setCell ?_ ?_ _ | (left; simp; done) | (right; simp; done) | (right; dsimp only; omega) | (left; dsimp only; omega))))) hb; replace J := J5; clear J5 hb)
        | (go_at_call 16; with_reducible refine (lentN_any (.slice a6 M6 cap6) (.map m6) more6 (10 + M6) _ ?_ ?_ ?_).mono ?_; (exact HB3.out); (exact HT6.out.below (by first | exact J | exact J.drew | exact q_alloc J _ | (exact by (repeat' (first | with_reducible exact Below.refl _ _ | with_reducible assumption | with_reducible refine q_alloc ?_ _ | with_reducible refine q_drew ?_ | with_reducible refine q_drewN _ ?_ | with_reducible refine q_setCell ?_ ?_ _ | (left; simp; done) | (right; simp; done) | (right; dsimp only; omega) | (left; dsimp only; omega)))))); (exact HB4.out); rintro e w5 ⟨rfl, hb⟩; have J5 : Below W8.heap.size W8 w5 := q_step (by first | exact J | exact J.drew | exact q_alloc J _ | (exact by (repeat' (first | with_reducible exact Below.refl _ _ | with_reducible assumption | with_reducible refine q_alloc ?_ _ | with_reducible refine q_drew ?_ | with_reducible refine q_drewN _ ?_ | with_reducible refine q_setCell ?_ ?_ _ | (left; simp; done) | (right; simp; done) | (right; dsimp only; omega) | (left; dsimp only; omega))))) hb; replace J := J5; clear J5 hb)
        | (go_at_call 19; with_reducible refine (rfind_any _ (knownL ++ more) nm _ ?_ ?_).mono ?_; (exact HIS.out.below (by first | exact J | exact J.drew | exact q_alloc J _ | (exact by (repeat' (first | with_reducible exact Below.refl _ _ | with_reducible assumption | with_reducible refine q_alloc ?_ _ | with_reducible refine q_drew ?_ | with_reducible refine q_drewN _ ?_ | with_reducible refine q_setCell ?_ ?_ _ | (left; simp; done) | (right; simp; done) | (right; dsimp only; omega) | (left; dsimp only; omega)))))); (exact HB5.out); rintro e w5 ⟨rfl, rfl⟩; rw [← HFN.out]))) | fail)
        go_wp2_with fail
        have hqe := q_step HQ8.out J
        go_returns
        exact ⟨by first | rfl | simp, hqe⟩
      · skip
        refine wp_region_held_drew (S := fun w' => Below W8.heap.size W8 w') (by kernel_rfl) ?_ (fun hHeld => ?_)
        · (try dsimp only); first | exact J | exact J.drew | exact q_alloc J _ | (exact by (repeat' (first | with_reducible exact Below.refl _ _ | with_reducible assumption | with_reducible refine q_alloc ?_ _ | with_reducible refine q_drew ?_ | with_reducible refine q_drewN _ ?_ | with_reducible refine q_setCell ?_ ?_ _ | (left; simp; done) | (right; simp; done) | (right; dsimp only; omega) | (left; dsimp only; omega))))
        refine wpAnyH_take (i := 0) (oi := { dst := some 98, op := Op.load 30 (Operand.tmp 7), type := 30, pos := "law.go:131", after := #[], guard := none }) (v := ?_) rfl (by kernel_rfl) (by kernel_rfl) (by kernel_rfl) (fun _ _ _ h => h) (Or.inl ⟨by rfl, ?_⟩) (by assumption) ?_
        rotate_left
        · intro w hSw; (try dsimp only at hSw); go_simp; (try with_reducible rfl)
        try simp only [Act.put, List.setIfInBounds_toArray, List.set_cons_zero, List.set_cons_succ]
        refine wpAnyH_take (i := 2) (oi := { dst := some 100, op := Op.move (Operand.tmp 8), type := 22, pos := "law.go:131", after := #[], guard := none }) (v := ?_) rfl (by kernel_rfl) (by kernel_rfl) (by kernel_rfl) (fun _ _ _ h => h) (Or.inl ⟨by rfl, ?_⟩) (by assumption) ?_
        rotate_left
        · intro w hSw; (try dsimp only at hSw); go_simp; (try with_reducible rfl)
        try simp only [Act.put, List.setIfInBounds_toArray, List.set_cons_zero, List.set_cons_succ]
        refine wpAnyH_take (i := 3) (oi := { dst := some 101, op := Op.call { callee := Callee.builtin Builtin.len, args := #[Operand.tmp 100], argTypes := #[22] }, type := 3, pos := "law.go:131", after := #[{ on := 2, ground := Ground.data }], guard := none }) (v := ?_) rfl (by kernel_rfl) (by kernel_rfl) (by kernel_rfl) (fun _ _ _ h => h) (Or.inl ⟨by rfl, ?_⟩) (by assumption) ?_
        rotate_left
        · intro w hSw; (try dsimp only at hSw); go_simp; (try with_reducible rfl)
        try simp only [Act.put, List.setIfInBounds_toArray, List.set_cons_zero, List.set_cons_succ]
        refine wpAnyH_ready (rs := [1]) (by kernel_rfl) (by simp) ?_
        refine AllReadyH.cons (o := { dst := some 99, op := Op.call { callee := Callee.value (Operand.func 16), args := #[Operand.tmp 98], argTypes := #[30] }, type := 3, pos := "law.go:131", after := #[{ on := 0, ground := Ground.data }], guard := none }) rfl (fun K hK => ?_) AllReadyH.nil
        go_simp
        go_at_call 16; with_reducible refine (lentN_any (.slice a P capT) (.map m) more (10 + P) _ ?_ ?_ ?_).mono ?_; (exact HB1.out); (exact HT.out.below (by first | exact J | exact J.drew | exact q_alloc J _ | (exact by (repeat' (first | with_reducible exact Below.refl _ _ | with_reducible assumption | with_reducible refine q_alloc ?_ _ | with_reducible refine q_drew ?_ | with_reducible refine q_drewN _ ?_ | with_reducible refine q_setCell ?_ ?_ _ | (left; simp; done) | (right; simp; done) | (right; dsimp only; omega) | (left; dsimp only; omega)))))); (exact HB2.out); rintro e w5 ⟨rfl, hb⟩; have J5 : Below W8.heap.size W8 w5 := q_step (by first | exact J | exact J.drew | exact q_alloc J _ | (exact by (repeat' (first | with_reducible exact Below.refl _ _ | with_reducible assumption | with_reducible refine q_alloc ?_ _ | with_reducible refine q_drew ?_ | with_reducible refine q_drewN _ ?_ | with_reducible refine q_setCell ?_ ?_ _ | (left; simp; done) | (right; simp; done) | (right; dsimp only; omega) | (left; dsimp only; omega))))) hb; replace J := J5; clear J5 hb
        refine hK.out _ _ ?_ (fun hHeld => ?_)
        · (try dsimp only); first | exact J | exact J.drew | exact q_alloc J _ | (exact by (repeat' (first | with_reducible exact Below.refl _ _ | with_reducible assumption | with_reducible refine q_alloc ?_ _ | with_reducible refine q_drew ?_ | with_reducible refine q_drewN _ ?_ | with_reducible refine q_setCell ?_ ?_ _ | (left; simp; done) | (right; simp; done) | (right; dsimp only; omega) | (left; dsimp only; omega))))
        clear hK K
        try simp only [Act.put, List.setIfInBounds_toArray, List.set_cons_zero, List.set_cons_succ]
        refine wpAnyH_take (i := 4) (oi := { dst := some 102, op := Op.binOp BinOp.eql 3 (Operand.tmp 99) (Operand.tmp 101) 3, type := 4, pos := "law.go:131", after := #[{ on := 1, ground := Ground.data }, { on := 3, ground := Ground.data }], guard := none }) (v := ?_) rfl (by kernel_rfl) (by kernel_rfl) (by kernel_rfl) (fun _ _ _ h => h) (Or.inl ⟨by rfl, ?_⟩) (by assumption) ?_
        rotate_left
        · intro w hSw; (try dsimp only at hSw); go_simp; (try with_reducible rfl)
        try simp only [Act.put, List.setIfInBounds_toArray, List.set_cons_zero, List.set_cons_succ]
        refine wpAnyH_take (i := 5) (oi := { dst := some 103, op := Op.move (Operand.tmp 102), type := 4, pos := "law.go:131", after := #[{ on := 4, ground := Ground.data }, { on := 1, ground := Ground.chain }], guard := none }) (v := ?_) rfl (by kernel_rfl) (by kernel_rfl) (by kernel_rfl) (fun _ _ _ h => h) (Or.inl ⟨by rfl, ?_⟩) (by assumption) ?_
        rotate_left
        · intro w hSw; (try dsimp only at hSw); go_simp; (try with_reducible rfl)
        try simp only [Act.put, List.setIfInBounds_toArray, List.set_cons_zero, List.set_cons_succ]
        refine wpAnyH_take (i := 6) (oi := { dst := some 104, op := Op.move (Operand.tmp 14), type := 25, pos := "law.go:131", after := #[{ on := 5, ground := Ground.guard }], guard := some (5, true) }) (v := ?_) rfl (by kernel_rfl) (by kernel_rfl) (by kernel_rfl) (fun _ _ _ h => h) (Or.inl ⟨by rfl, ?_⟩) (by assumption) ?_
        rotate_left
        · intro w hSw; (try dsimp only at hSw); go_simp; (try with_reducible rfl)
        try simp only [Act.put, List.setIfInBounds_toArray, List.set_cons_zero, List.set_cons_succ]
        refine wpAnyH_take (i := 7) (oi := { dst := some 105, op := Op.convert 25 3 (Operand.tmp 104), type := 3, pos := "law.go:131", after := #[{ on := 6, ground := Ground.data }, { on := 5, ground := Ground.guard }], guard := some (5, true) }) (v := ?_) rfl (by kernel_rfl) (by kernel_rfl) (by kernel_rfl) (fun _ _ _ h => h) (Or.inl ⟨by rfl, ?_⟩) (by assumption) ?_
        rotate_left
        · intro w hSw; (try dsimp only at hSw); go_simp; (try with_reducible rfl)
        try simp only [Act.put, List.setIfInBounds_toArray, List.set_cons_zero, List.set_cons_succ]
        refine wpAnyH_take (i := 8) (oi := { dst := some 106, op := Op.move (Operand.tmp 17), type := 3, pos := "law.go:131", after := #[{ on := 5, ground := Ground.guard }], guard := some (5, true) }) (v := ?_) rfl (by kernel_rfl) (by kernel_rfl) (by kernel_rfl) (fun _ _ _ h => h) (Or.inl ⟨by rfl, ?_⟩) (by assumption) ?_
        rotate_left
        · intro w hSw; (try dsimp only at hSw); go_simp; (try with_reducible rfl)
        try simp only [Act.put, List.setIfInBounds_toArray, List.set_cons_zero, List.set_cons_succ]
        refine wpAnyH_take (i := 9) (oi := { dst := some 107, op := Op.binOp BinOp.eql 3 (Operand.tmp 105) (Operand.tmp 106) 3, type := 4, pos := "law.go:131", after := #[{ on := 7, ground := Ground.data }, { on := 8, ground := Ground.data }, { on := 5, ground := Ground.guard }], guard := some (5, true) }) (v := ?_) rfl (by kernel_rfl) (by kernel_rfl) (by kernel_rfl) (fun _ _ _ h => h) (Or.inl ⟨by rfl, ?_⟩) (by assumption) ?_
        rotate_left
        · intro w hSw; (try dsimp only at hSw); go_simp; (try with_reducible rfl)
        try simp only [Act.put, List.setIfInBounds_toArray, List.set_cons_zero, List.set_cons_succ]
        refine wpAnyH_take (i := 10) (oi := { dst := some 108, op := Op.pick (Operand.tmp 103) (Operand.tmp 107) (Operand.const (Value.bool false)), type := 4, pos := "law.go:131", after := #[{ on := 5, ground := Ground.data }, { on := 9, ground := Ground.data }], guard := none }) (v := ?_) rfl (by kernel_rfl) (by kernel_rfl) (by kernel_rfl) (fun _ _ _ h => h) (Or.inl ⟨by rfl, ?_⟩) (by assumption) ?_
        rotate_left
        · intro w hSw; (try dsimp only at hSw); go_simp; (try with_reducible rfl)
        try simp only [Act.put, List.setIfInBounds_toArray, List.set_cons_zero, List.set_cons_succ]
        refine wpAnyH_take (i := 11) (oi := { dst := some 109, op := Op.move (Operand.tmp 108), type := 4, pos := "law.go:131", after := #[{ on := 10, ground := Ground.data }, { on := 5, ground := Ground.chain }], guard := none }) (v := ?_) rfl (by kernel_rfl) (by kernel_rfl) (by kernel_rfl) (fun _ _ _ h => h) (Or.inl ⟨by rfl, ?_⟩) (by assumption) ?_
        rotate_left
        · intro w hSw; (try dsimp only at hSw); go_simp; (try with_reducible rfl)
        try simp only [Act.put, List.setIfInBounds_toArray, List.set_cons_zero, List.set_cons_succ]
        refine wpAnyH_take (i := 12) (oi := { dst := some 110, op := Op.move (Operand.tmp 15), type := 32, pos := "law.go:131", after := #[{ on := 11, ground := Ground.guard }], guard := some (11, true) }) (v := ?_) rfl (by kernel_rfl) (by kernel_rfl) (by kernel_rfl) (fun _ _ _ h => h) (Or.inl ⟨by rfl, ?_⟩) (by assumption) ?_
        rotate_left
        · intro w hSw; (try dsimp only at hSw); go_simp; (try with_reducible rfl)
        try simp only [Act.put, List.setIfInBounds_toArray, List.set_cons_zero, List.set_cons_succ]
        refine wpAnyH_take (i := 13) (oi := { dst := some 111, op := Op.move (Operand.tmp 18), type := 3, pos := "law.go:131", after := #[{ on := 11, ground := Ground.guard }], guard := some (11, true) }) (v := ?_) rfl (by kernel_rfl) (by kernel_rfl) (by kernel_rfl) (fun _ _ _ h => h) (Or.inl ⟨by rfl, ?_⟩) (by assumption) ?_
        rotate_left
        · intro w hSw; (try dsimp only at hSw); go_simp; (try with_reducible rfl)
        try simp only [Act.put, List.setIfInBounds_toArray, List.set_cons_zero, List.set_cons_succ]
        refine wpAnyH_take (i := 14) (oi := { dst := some 112, op := Op.binOp BinOp.eql 3 (Operand.tmp 110) (Operand.tmp 111) 3, type := 4, pos := "law.go:131", after := #[{ on := 12, ground := Ground.data }, { on := 13, ground := Ground.data }, { on := 11, ground := Ground.guard }], guard := some (11, true) }) (v := ?_) rfl (by kernel_rfl) (by kernel_rfl) (by kernel_rfl) (fun _ _ _ h => h) (Or.inl ⟨by rfl, ?_⟩) (by assumption) ?_
        rotate_left
        · intro w hSw; (try dsimp only at hSw); go_simp; (try with_reducible rfl)
        try simp only [Act.put, List.setIfInBounds_toArray, List.set_cons_zero, List.set_cons_succ]
        refine wpAnyH_take (i := 15) (oi := { dst := some 113, op := Op.pick (Operand.tmp 109) (Operand.tmp 112) (Operand.const (Value.bool false)), type := 4, pos := "law.go:131", after := #[{ on := 11, ground := Ground.data }, { on := 14, ground := Ground.data }], guard := none }) (v := ?_) rfl (by kernel_rfl) (by kernel_rfl) (by kernel_rfl) (fun _ _ _ h => h) (Or.inl ⟨by rfl, ?_⟩) (by assumption) ?_
        rotate_left
        · intro w hSw; (try dsimp only at hSw); go_simp; (try with_reducible rfl)
        try simp only [Act.put, List.setIfInBounds_toArray, List.set_cons_zero, List.set_cons_succ]
        refine wpAnyH_take (i := 16) (oi := { dst := some 114, op := Op.move (Operand.tmp 113), type := 4, pos := "law.go:131", after := #[{ on := 15, ground := Ground.data }, { on := 11, ground := Ground.chain }], guard := none }) (v := ?_) rfl (by kernel_rfl) (by kernel_rfl) (by kernel_rfl) (fun _ _ _ h => h) (Or.inl ⟨by rfl, ?_⟩) (by assumption) ?_
        rotate_left
        · intro w hSw; (try dsimp only at hSw); go_simp; (try with_reducible rfl)
        try simp only [Act.put, List.setIfInBounds_toArray, List.set_cons_zero, List.set_cons_succ]
        refine wpAnyH_take (i := 17) (oi := { dst := some 115, op := Op.load 30 (Operand.tmp 13), type := 30, pos := "law.go:131", after := #[{ on := 16, ground := Ground.guard }], guard := some (16, true) }) (v := ?_) rfl (by kernel_rfl) (by kernel_rfl) (by kernel_rfl) (fun _ _ _ h => h) (Or.inl ⟨by rfl, ?_⟩) (by assumption) ?_
        rotate_left
        · intro w hSw; (try dsimp only at hSw); go_simp; (try with_reducible rfl)
        try simp only [Act.put, List.setIfInBounds_toArray, List.set_cons_zero, List.set_cons_succ]
        refine wpAnyH_take (i := 19) (oi := { dst := some 117, op := Op.load 30 (Operand.tmp 7), type := 30, pos := "law.go:131", after := #[{ on := 16, ground := Ground.guard }], guard := some (16, true) }) (v := ?_) rfl (by kernel_rfl) (by kernel_rfl) (by kernel_rfl) (fun _ _ _ h => h) (Or.inl ⟨by rfl, ?_⟩) (by assumption) ?_
        rotate_left
        · intro w hSw; (try dsimp only at hSw); go_simp; (try with_reducible rfl)
        try simp only [Act.put, List.setIfInBounds_toArray, List.set_cons_zero, List.set_cons_succ]
        refine wpAnyH_ready (rs := [18]) (by kernel_rfl) (by simp) ?_
        refine AllReadyH.cons (o := { dst := some 116, op := Op.call { callee := Callee.value (Operand.func 16), args := #[Operand.tmp 115], argTypes := #[30] }, type := 3, pos := "law.go:131", after := #[{ on := 17, ground := Ground.data }, { on := 16, ground := Ground.chain }, { on := 16, ground := Ground.guard }], guard := some (16, true) }) rfl (fun K hK => ?_) AllReadyH.nil
        go_simp
        go_at_call 16; with_reducible refine (lentN_any (.slice a6 M6 cap6) (.map m6) more6 (10 + M6) _ ?_ ?_ ?_).mono ?_; (exact HB3.out); (exact HT6.out.below (by first | exact J | exact J.drew | exact q_alloc J _ | (exact by (repeat' (first | with_reducible exact Below.refl _ _ | with_reducible assumption | with_reducible refine q_alloc ?_ _ | with_reducible refine q_drew ?_ | with_reducible refine q_drewN _ ?_ | with_reducible refine q_setCell ?_ ?_ _ | (left; simp; done) | (right; simp; done) | (right; dsimp only; omega) | (left; dsimp only; omega)))))); (exact HB4.out); rintro e w5 ⟨rfl, hb⟩; have J5 : Below W8.heap.size W8 w5 := q_step (by first | exact J | exact J.drew | exact q_alloc J _ | (exact by (repeat' (first | with_reducible exact Below.refl _ _ | with_reducible assumption | with_reducible refine q_alloc ?_ _ | with_reducible refine q_drew ?_ | with_reducible refine q_drewN _ ?_ | with_reducible refine q_setCell ?_ ?_ _ | (left; simp; done) | (right; simp; done) | (right; dsimp only; omega) | (left; dsimp only; omega))))) hb; replace J := J5; clear J5 hb
        refine hK.out _ _ ?_ (fun hHeld => ?_)
        · (try dsimp only); first | exact J | exact J.drew | exact q_alloc J _ | (exact by (repeat' (first | with_reducible exact Below.refl _ _ | with_reducible assumption | with_reducible refine q_alloc ?_ _ | with_reducible refine q_drew ?_ | with_reducible refine q_drewN _ ?_ | with_reducible refine q_setCell ?_ ?_ _ | (left; simp; done) | (right; simp; done) | (right; dsimp only; omega) | (left; dsimp only; omega))))
        clear hK K
        try simp only [Act.put, List.setIfInBounds_toArray, List.set_cons_zero, List.set_cons_succ]
        refine wpAnyH_ready (rs := [20]) (by kernel_rfl) (by simp) ?_
        refine AllReadyH.cons (o := { dst := some 118, op := Op.call { callee := Callee.value (Operand.func 16), args := #[Operand.tmp 117], argTypes := #[30] }, type := 3, pos := "law.go:131", after := #[{ on := 19, ground := Ground.data }, { on := 18, ground := Ground.chain }, { on := 16, ground := Ground.guard }], guard := some (16, true) }) rfl (fun K hK => ?_) AllReadyH.nil
        go_simp
        go_at_call 16; with_reducible refine (lentN_any (.slice a P capT) (.map m) more (10 + P) _ ?_ ?_ ?_).mono ?_; (exact HB1.out); (exact HT.out.below (by first | exact J | exact J.drew | exact q_alloc J _ | (exact by (repeat' (first | with_reducible exact Below.refl _ _ | with_reducible assumption | with_reducible refine q_alloc ?_ _ | with_reducible refine q_drew ?_ | with_reducible refine q_drewN _ ?_ | with_reducible refine q_setCell ?_ ?_ _ | (left; simp; done) | (right; simp; done) | (right; dsimp only; omega) | (left; dsimp only; omega)))))); (exact HB2.out); rintro e w5 ⟨rfl, hb⟩; have J5 : Below W8.heap.size W8 w5 := q_step (by first | exact J | exact J.drew | exact q_alloc J _ | (exact by (repeat' (first | with_reducible exact Below.refl _ _ | with_reducible assumption | with_reducible refine q_alloc ?_ _ | with_reducible refine q_drew ?_ | with_reducible refine q_drewN _ ?_ | with_reducible refine q_setCell ?_ ?_ _ | (left; simp; done) | (right; simp; done) | (right; dsimp only; omega) | (left; dsimp only; omega))))) hb; replace J := J5; clear J5 hb
        refine hK.out _ _ ?_ (fun hHeld => ?_)
        · (try dsimp only); first | exact J | exact J.drew | exact q_alloc J _ | (exact by (repeat' (first | with_reducible exact Below.refl _ _ | with_reducible assumption | with_reducible refine q_alloc ?_ _ | with_reducible refine q_drew ?_ | with_reducible refine q_drewN _ ?_ | with_reducible refine q_setCell ?_ ?_ _ | (left; simp; done) | (right; simp; done) | (right; dsimp only; omega) | (left; dsimp only; omega))))
        clear hK K
        try simp only [Act.put, List.setIfInBounds_toArray, List.set_cons_zero, List.set_cons_succ]
        refine wpAnyH_take (i := 21) (oi := { dst := some 119, op := Op.binOp BinOp.geq 3 (Operand.tmp 116) (Operand.tmp 118) 3, type := 4, pos := "law.go:131", after := #[{ on := 18, ground := Ground.data }, { on := 20, ground := Ground.data }, { on := 16, ground := Ground.guard }], guard := some (16, true) }) (v := ?_) rfl (by kernel_rfl) (by kernel_rfl) (by kernel_rfl) (fun _ _ _ h => h) (Or.inl ⟨by rfl, ?_⟩) (by assumption) ?_
        rotate_left
        · intro w hSw; (try dsimp only at hSw); go_simp; (try with_reducible rfl)
        try simp only [Act.put, List.setIfInBounds_toArray, List.set_cons_zero, List.set_cons_succ]
        refine wpAnyH_take (i := 22) (oi := { dst := some 120, op := Op.pick (Operand.tmp 114) (Operand.tmp 119) (Operand.const (Value.bool false)), type := 4, pos := "law.go:131", after := #[{ on := 16, ground := Ground.data }, { on := 21, ground := Ground.data }], guard := none }) (v := ?_) rfl (by kernel_rfl) (by kernel_rfl) (by kernel_rfl) (fun _ _ _ h => h) (Or.inl ⟨by rfl, ?_⟩) (by assumption) ?_
        rotate_left
        · intro w hSw; (try dsimp only at hSw); go_simp; (try with_reducible rfl)
        try simp only [Act.put, List.setIfInBounds_toArray, List.set_cons_zero, List.set_cons_succ]
        refine wpAnyH_take (i := 23) (oi := { dst := some 121, op := Op.move (Operand.tmp 120), type := 4, pos := "law.go:131", after := #[{ on := 22, ground := Ground.data }, { on := 20, ground := Ground.chain }], guard := none }) (v := ?_) rfl (by kernel_rfl) (by kernel_rfl) (by kernel_rfl) (fun _ _ _ h => h) (Or.inl ⟨by rfl, ?_⟩) (by assumption) ?_
        rotate_left
        · intro w hSw; (try dsimp only at hSw); go_simp; (try with_reducible rfl)
        try simp only [Act.put, List.setIfInBounds_toArray, List.set_cons_zero, List.set_cons_succ]
        refine wpAnyH_take (i := 24) (oi := { dst := some 122, op := Op.move (Operand.tmp 21), type := 32, pos := "law.go:131", after := #[{ on := 23, ground := Ground.guard }], guard := some (23, true) }) (v := ?_) rfl (by kernel_rfl) (by kernel_rfl) (by kernel_rfl) (fun _ _ _ h => h) (Or.inl ⟨by rfl, ?_⟩) (by assumption) ?_
        rotate_left
        · intro w hSw; (try dsimp only at hSw); go_simp; (try with_reducible rfl)
        try simp only [Act.put, List.setIfInBounds_toArray, List.set_cons_zero, List.set_cons_succ]
        refine wpAnyH_take (i := 25) (oi := { dst := some 123, op := Op.binOp BinOp.neq 32 (Operand.tmp 122) (Operand.const (Value.int IntKind.i64 0)) 32, type := 4, pos := "law.go:131", after := #[{ on := 24, ground := Ground.data }, { on := 23, ground := Ground.guard }], guard := some (23, true) }) (v := ?_) rfl (by kernel_rfl) (by kernel_rfl) (by kernel_rfl) (fun _ _ _ h => h) (Or.inl ⟨by rfl, ?_⟩) (by assumption) ?_
        rotate_left
        · intro w hSw; (try dsimp only at hSw); go_simp; (try with_reducible rfl)
        try simp only [Act.put, List.setIfInBounds_toArray, List.set_cons_zero, List.set_cons_succ]
        refine wpAnyH_take (i := 26) (oi := { dst := some 124, op := Op.move (Operand.tmp 123), type := 4, pos := "law.go:131", after := #[{ on := 25, ground := Ground.data }, { on := 23, ground := Ground.chain }, { on := 23, ground := Ground.guard }], guard := some (23, true) }) (v := ?_) rfl (by kernel_rfl) (by kernel_rfl) (by kernel_rfl) (fun _ _ _ h => h) (Or.inl ⟨by rfl, ?_⟩) (by assumption) ?_
        rotate_left
        · intro w hSw; (try dsimp only at hSw); go_simp; (try with_reducible rfl)
        try simp only [Act.put, List.setIfInBounds_toArray, List.set_cons_zero, List.set_cons_succ]
        refine wpAnyH_take (i := 27) (oi := { dst := some 125, op := Op.move (Operand.tmp 20), type := 25, pos := "law.go:131", after := #[{ on := 26, ground := Ground.guard }], guard := some (26, false) }) (v := undef) rfl (by kernel_rfl) (by kernel_rfl) (by kernel_rfl) (fun _ _ _ h => h) (Or.inr ⟨by rfl, rfl⟩) (by assumption) ?_
        try simp only [Act.put, List.setIfInBounds_toArray, List.set_cons_zero, List.set_cons_succ]
        refine wpAnyH_take (i := 28) (oi := { dst := some 126, op := Op.convert 25 3 (Operand.tmp 125), type := 3, pos := "law.go:131", after := #[{ on := 27, ground := Ground.data }, { on := 26, ground := Ground.guard }], guard := some (26, false) }) (v := undef) rfl (by kernel_rfl) (by kernel_rfl) (by kernel_rfl) (fun _ _ _ h => h) (Or.inr ⟨by rfl, rfl⟩) (by assumption) ?_
        try simp only [Act.put, List.setIfInBounds_toArray, List.set_cons_zero, List.set_cons_succ]
        refine wpAnyH_take (i := 29) (oi := { dst := some 127, op := Op.move (Operand.tmp 8), type := 22, pos := "law.go:131", after := #[{ on := 26, ground := Ground.guard }], guard := some (26, false) }) (v := undef) rfl (by kernel_rfl) (by kernel_rfl) (by kernel_rfl) (fun _ _ _ h => h) (Or.inr ⟨by rfl, rfl⟩) (by assumption) ?_
        try simp only [Act.put, List.setIfInBounds_toArray, List.set_cons_zero, List.set_cons_succ]
        refine wpAnyH_take (i := 30) (oi := { dst := some 128, op := Op.move (Operand.tmp 1), type := 9, pos := "law.go:131", after := #[{ on := 26, ground := Ground.guard }], guard := some (26, false) }) (v := undef) rfl (by kernel_rfl) (by kernel_rfl) (by kernel_rfl) (fun _ _ _ h => h) (Or.inr ⟨by rfl, rfl⟩) (by assumption) ?_
        try simp only [Act.put, List.setIfInBounds_toArray, List.set_cons_zero, List.set_cons_succ]
        refine wpAnyH_take (i := 31) (oi := { dst := some 129, op := Op.call { callee := Callee.value (Operand.func 19), args := #[Operand.tmp 127, Operand.tmp 128], argTypes := #[22, 9] }, type := 3, pos := "law.go:131", after := #[{ on := 29, ground := Ground.data }, { on := 30, ground := Ground.data }, { on := 26, ground := Ground.chain }, { on := 26, ground := Ground.guard }], guard := some (26, false) }) (v := undef) rfl (by kernel_rfl) (by kernel_rfl) (by kernel_rfl) (fun _ _ _ h => h) (Or.inr ⟨by rfl, rfl⟩) (by assumption) ?_
        try simp only [Act.put, List.setIfInBounds_toArray, List.set_cons_zero, List.set_cons_succ]
        refine wpAnyH_take (i := 32) (oi := { dst := some 130, op := Op.binOp BinOp.eql 3 (Operand.tmp 126) (Operand.tmp 129) 3, type := 4, pos := "law.go:131", after := #[{ on := 28, ground := Ground.data }, { on := 31, ground := Ground.data }, { on := 26, ground := Ground.guard }], guard := some (26, false) }) (v := undef) rfl (by kernel_rfl) (by kernel_rfl) (by kernel_rfl) (fun _ _ _ h => h) (Or.inr ⟨by rfl, rfl⟩) (by assumption) ?_
        try simp only [Act.put, List.setIfInBounds_toArray, List.set_cons_zero, List.set_cons_succ]
        refine wpAnyH_take (i := 33) (oi := { dst := some 131, op := Op.pick (Operand.tmp 124) (Operand.const (Value.bool true)) (Operand.tmp 130), type := 4, pos := "law.go:131", after := #[{ on := 26, ground := Ground.data }, { on := 32, ground := Ground.data }, { on := 23, ground := Ground.guard }], guard := some (23, true) }) (v := ?_) rfl (by kernel_rfl) (by kernel_rfl) (by kernel_rfl) (fun _ _ _ h => h) (Or.inl ⟨by rfl, ?_⟩) (by assumption) ?_
        rotate_left
        · intro w hSw; (try dsimp only at hSw); go_simp; (try with_reducible rfl)
        try simp only [Act.put, List.setIfInBounds_toArray, List.set_cons_zero, List.set_cons_succ]
        refine wpAnyH_take (i := 34) (oi := { dst := some 132, op := Op.pick (Operand.tmp 121) (Operand.tmp 131) (Operand.const (Value.bool false)), type := 4, pos := "law.go:131", after := #[{ on := 23, ground := Ground.data }, { on := 33, ground := Ground.data }], guard := none }) (v := ?_) rfl (by kernel_rfl) (by kernel_rfl) (by kernel_rfl) (fun _ _ _ h => h) (Or.inl ⟨by rfl, ?_⟩) (by assumption) ?_
        rotate_left
        · intro w hSw; (try dsimp only at hSw); go_simp; (try with_reducible rfl)
        try simp only [Act.put, List.setIfInBounds_toArray, List.set_cons_zero, List.set_cons_succ]
        refine wpAnyH_take (i := 35) (oi := { dst := some 4, op := Op.assign (Operand.tmp 132), type := 4, pos := "law.go:131", after := #[{ on := 34, ground := Ground.data }, { on := 31, ground := Ground.chain }, { on := 0, ground := Ground.phase }, { on := 1, ground := Ground.phase }, { on := 2, ground := Ground.phase }, { on := 3, ground := Ground.phase }, { on := 4, ground := Ground.phase }, { on := 5, ground := Ground.phase }, { on := 6, ground := Ground.phase }, { on := 7, ground := Ground.phase }, { on := 8, ground := Ground.phase }, { on := 9, ground := Ground.phase }, { on := 10, ground := Ground.phase }, { on := 11, ground := Ground.phase }, { on := 12, ground := Ground.phase }, { on := 13, ground := Ground.phase }, { on := 14, ground := Ground.phase }, { on := 15, ground := Ground.phase }, { on := 16, ground := Ground.phase }, { on := 17, ground := Ground.phase }, { on := 18, ground := Ground.phase }, { on := 19, ground := Ground.phase }, { on := 20, ground := Ground.phase }, { on := 21, ground := Ground.phase }, { on := 22, ground := Ground.phase }, { on := 23, ground := Ground.phase }, { on := 24, ground := Ground.phase }, { on := 25, ground := Ground.phase }, { on := 26, ground := Ground.phase }, { on := 27, ground := Ground.phase }, { on := 28, ground := Ground.phase }, { on := 29, ground := Ground.phase }, { on := 30, ground := Ground.phase }, { on := 31, ground := Ground.phase }, { on := 32, ground := Ground.phase }, { on := 33, ground := Ground.phase }, { on := 34, ground := Ground.phase }], guard := none }) (v := ?_) rfl (by kernel_rfl) (by kernel_rfl) (by kernel_rfl) (fun _ _ _ h => h) (Or.inl ⟨by rfl, ?_⟩) (by assumption) ?_
        rotate_left
        · intro w hSw; (try dsimp only at hSw); go_simp; (try with_reducible rfl)
        try simp only [Act.put, List.setIfInBounds_toArray, List.set_cons_zero, List.set_cons_succ]
        refine wpAnyH_done (by kernel_rfl) ?_ _
        go_wp2_with fail
        have hqe := q_step HQ8.out J
        go_returns
        exact ⟨by first | rfl | simp, hqe⟩
end Go.Proofs.YtdkdpjlkjamemaaDoor
