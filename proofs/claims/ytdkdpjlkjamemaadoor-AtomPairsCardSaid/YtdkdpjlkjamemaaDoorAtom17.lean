/- Layer 9: names and atoms, one for one: the walk. -/
import Derived.Test.YtdkdpjlkjamemaaDoorAtom15
import Derived.Test.YtdkdpjlkjamemaaDoorAtom16
import Derived.Deep.OwnRows
import Derived.BigQuiet
namespace Go.Proofs.YtdkdpjlkjamemaaDoor
open Go Go.RowKit Go.Maps
set_option linter.unusedSimpArgs false
set_option linter.unusedVariables false
theorem VarX.set1 {X : Nat → Prop} {c c' j : Nat} {l : List B} {w : World} {u : Value} (h : VarX X c l w) (hx : X c') (hne : c' ≠ c) : VarX X c l (w.setCell ⟨c', j, none⟩ u) := by
  obtain ⟨a, cap, m, h1, h2⟩ := h
  exact ⟨a, cap, m, h1.set_far (p := ⟨c', j, none⟩) hne u, h2.set hx⟩
theorem TabX.set1 {X : Nat → Prop} {c j : Nat} {w : World} {sv mv u : Value} {more : List B} (h : TabX X w sv mv more) (hc : X c) : TabX X (w.setCell ⟨c, j, none⟩ u) sv mv more := h.set hc
def PrS (w : World) (c d : Nat) (ss : List B) (k : Nat) (more : List B) (wr : World) : Prop :=
  Below w.heap.size w wr ∧ VarX (fun x => x = c ∨ x = d) c more wr ∧ Blk wr d (vsL more ss k)
theorem info_atom : (Tryd.prog.info? 25).map (fun i => (i.zero, i.size, i.bytes)) = some (some (u3 0), 1, 4) := by kernel_rfl
theorem und_atoms : Tryd.prog.underlying 42 = some (.slice 25) := by kernel_rfl
theorem made_list (z : Value) (n : Nat) (hz : z.cells = #[z]) : (madeCells #[z] n).toList = List.replicate n z := by
  apply List.ext_getElem
  · simp [madeCells]
  · intro i h1 h2; simp [madeCells, Nat.mod_one]
theorem stick {w : World} {p : Addr} {v : Value} (h : w.cell? p = some v) : ∀ W, Below w.heap.size w W → W.cell? p = some v := fun _ hb => cell_below hb h
set_option maxRecDepth 100000 in
set_option maxHeartbeats 4000000 in
theorem lpairs_any (a0 : Option Addr) (cap : Nat) (ss : List B) (w : World) (hs : RowAt 0 knownCells w) (hl : IsStrs w (.slice a0 ss.length cap) ss) :
    Calls Tryd.prog 4 #[.slice a0 ss.length cap] w fun e w' => e = .returned (.bool true) ∧ Below w.heap.size w w' := by
  have HS := Lib.hid hs
  have HI0 := Lib.hid hl
  clear hs hl
  go_enter Tryd.func4, Tryd.ntmps4
  go_wp2_with fail
  refine (awake09 _ HS.out).mono ?_
  rintro e w1 ⟨rfl, hq1⟩
  go_wp2_with fail
  refine (short_any _ ss 40 _ (HI0.out.below hq1) (by decide)).mono ?_
  rintro e w2 ⟨r, rfl, hr0, rfl⟩
  cases r with
  | false => go_wp2_with fail; go_returns; exact ⟨rfl, hq1⟩
  | true =>
  obtain ⟨hl40, hs0⟩ := hr0 rfl
  have HT0 := Lib.hid hs0
  clear hs0 hr0
  have hmk := fun ww => run_make_row' (P := Tryd.prog) 42 25 (u3 0) 4 und_atoms info_atom rfl .i64 .i64 ss.length (by omega) (by omega) ww
  have hcw := hq1.size
  go_upto_region 7 with fail
  clear hmk
  refine code_world (fun W => PrS w w1.heap.size (w1.heap.size + 1) ss 0 [] W) ⟨by (repeat' (first | with_reducible exact Below.refl _ _ | with_reducible assumption | with_reducible refine q_alloc ?_ _ | with_reducible refine q_drew ?_ | with_reducible refine q_drewN _ ?_ | with_reducible refine q_setCell ?_ ?_ _ | (left; simp; done) | (right; simp; done) | (right; dsimp only; omega) | (left; dsimp only; omega))), ⟨none, 0, none, (Blk.new rfl).alloc _, tabX_zero _⟩, blk_new1 (by rw [made_list _ _ rfl]; simp [vsL])⟩ ?_
  intro W2 hP
  generalize w1.heap.size = c at hcw hP ⊢
  clear hq1
  go_wp2_with fail
  go_loopw [5] (fun i wr => ∃ (k : Nat) (more : List B), k ≤ ss.length ∧ i = .int .i64 k ∧ more = foldI [] (ss.take k) ∧ KnowsL more ss k ∧ PrS w c (c + 1) ss k more wr)
    (fun i _ => ss.length - (intOf i).toNat)
  case atStart => exact ⟨0, [], by omega, rfl, rfl, fun s hs => by simp at hs, hP⟩
  case round =>
    clear hP
    obtain ⟨k, more, hk, rfl, hmf, hkn, hq, hv, hd⟩ := hrel
    by_cases hlt : k < ss.length
    · have hml : more.length ≤ 40 := by rw [hmf]; exact foldI_len40 ss k hl40
      obtain ⟨b, off, rfl, hcap, hcm, hb, hL⟩ := isStrs_pos HI0.out (by omega)
      have hlk : ss[k]? = some ss[k] := List.getElem?_eq_getElem hlt
      have d0 := hL.below hq k _ hlk
      clear hL
      have hs3 := HT0.out _ (List.getElem_mem hlt)
      have hvs := vs_step more ss k _ hlk (by omega) hkn
      have hkn' := knows_step more ss k _ hlk (by omega) hkn
      have hmf' := foldI_step [] ss k _ hlk
      rw [← hmf] at hmf'
      clear hkn hmf
      have HVS := Lib.hid hvs
      have HKN := Lib.hid hkn'
      have HMF := Lib.hid hmf'
      have hz0 : (vsL more ss k)[k]? = some (u3 0) := vsL_at more ss k hlt
      have hdc0 := hd.cell k hz0
      have hdf0 := hd.froz k hz0
      clear hvs hkn' hmf' hlk
      generalize ss[k] = s at d0 hs3 HVS HKN HMF
      generalize hvk : vsL more ss k = vk at hd HVS hz0
      have hkv : k < vk.length := (List.getElem?_eq_some_iff.1 hz0).1
      clear hvk
      obtain ⟨a, capT, m, hblk, hT⟩ := hv
      have c0 := hblk.cell 0 rfl
      have c1 := hblk.cell 1 rfl
      have z0 := hblk.lt
      have z1 := block_lt_of_cell d0
      dsimp only at z1
      have z2 := hd.lt
      have HZ0 := Lib.hid hz0
      have HKV := Lib.hid hkv
      clear hdc0 hdf0 hz0 hkv
      go_upto_region 10 with fail
      go_cut [6, 7, 8] from 22 to 44 (fun p x e wx => ∃ dd a5 cap5 m5, p = .pointer (some ⟨dd, 0, none⟩) ∧ x = u3 (internL more s false).2.1 ∧ e = i6 (internL more s false).2.2 ∧ wr.heap.size ≤ dd ∧ Below wr.heap.size wr wx ∧ Blk wx dd [.slice a5 (internL more s false).1.length cap5, .map m5] ∧ TabX (fun x => x = c ∨ x = c + 1) wx (.slice a5 (internL more s false).1.length cap5) (.map m5) (internL more s false).1)
      case first =>
        go_region_with (first
          | (go_at_call 12; refine (internX_any (fun x => (x = c ∨ x = c + 1) ∨ x = wr.heap.size) _ _ more s false _ ?_ (by omega) (by omega) ?_ ?_).mono ?_; exact HS.out.below (q_step hq (by (repeat' (first | with_reducible exact Below.refl _ _ | with_reducible assumption | with_reducible refine q_alloc ?_ _ | with_reducible refine q_drew ?_ | with_reducible refine q_drewN _ ?_ | with_reducible refine q_setCell ?_ ?_ _ | (left; simp; done) | (right; simp; done) | (right; dsimp only; omega) | (left; dsimp only; omega))))); exact (hT.or (Nat.le_refl _)).below (by (repeat' (first | with_reducible exact Below.refl _ _ | with_reducible assumption | with_reducible refine q_alloc ?_ _ | with_reducible refine q_drew ?_ | with_reducible refine q_drewN _ ?_ | with_reducible refine q_setCell ?_ ?_ _ | (left; simp; done) | (right; simp; done) | (right; dsimp only; omega) | (left; dsimp only; omega)))); (rintro x ((rfl | rfl) | rfl) <;> first | (simp; done) | (simp; omega)); rintro e w5 ⟨a5, cap5, m5, rfl, hT5, hb⟩; have hb' : Below wr.heap.size wr w5 := q_step (by (repeat' (first | with_reducible exact Below.refl _ _ | with_reducible assumption | with_reducible refine q_alloc ?_ _ | with_reducible refine q_drew ?_ | with_reducible refine q_drewN _ ?_ | with_reducible refine q_setCell ?_ ?_ _ | (left; simp; done) | (right; simp; done) | (right; dsimp only; omega) | (left; dsimp only; omega)))) hb; have hd5 : Blk w5 wr.heap.size [.slice none 0 0, .map none] := Blk.below (Blk.below (Blk.new rfl) (Below.refl _ _).drew) hb; have dc0 := hd5.cell 0 rfl; have dc1 := hd5.cell 1 rfl; have df0 := hd5.froz 0 rfl; have df1 := hd5.froz 1 rfl; have dz := hd5.lt; clear hb)
          | (go_at_call 12; refine (internX_any (fun x => x = c ∨ x = c + 1) _ _ more s false _ ?_ (by omega) (by omega) ?_ ?_).mono ?_; exact HS.out.below (q_step hq (by (repeat' (first | with_reducible exact Below.refl _ _ | with_reducible assumption | with_reducible refine q_alloc ?_ _ | with_reducible refine q_drew ?_ | with_reducible refine q_drewN _ ?_ | with_reducible refine q_setCell ?_ ?_ _ | (left; simp; done) | (right; simp; done) | (right; dsimp only; omega) | (left; dsimp only; omega))))); exact hT.below (by (repeat' (first | with_reducible exact Below.refl _ _ | with_reducible assumption | with_reducible refine q_alloc ?_ _ | with_reducible refine q_drew ?_ | with_reducible refine q_drewN _ ?_ | with_reducible refine q_setCell ?_ ?_ _ | (left; simp; done) | (right; simp; done) | (right; dsimp only; omega) | (left; dsimp only; omega)))); (rintro x (rfl | rfl) <;> first | exact z0 | exact z2 | (simp; omega)); rintro e w5 ⟨a5, cap5, m5, rfl, hT5, hb⟩; have hb' : Below wr.heap.size wr w5 := q_step (by (repeat' (first | with_reducible exact Below.refl _ _ | with_reducible assumption | with_reducible refine q_alloc ?_ _ | with_reducible refine q_drew ?_ | with_reducible refine q_drewN _ ?_ | with_reducible refine q_setCell ?_ ?_ _ | (left; simp; done) | (right; simp; done) | (right; dsimp only; omega) | (left; dsimp only; omega)))) hb; clear hb))
        all_goals (go_wp2_with fail; go_meet; (first | exact ⟨_, a5, cap5, m5, rfl, rfl, rfl, Nat.le_refl _, set2_q hb' (Nat.le_refl _), hd5.set2, ⟨((hT5.set (Or.inr rfl)).set (Or.inr rfl)).1, fun x hx => hT5.2 x (Or.inl hx)⟩⟩ | exact ⟨_, a5, cap5, m5, rfl, rfl, rfl, hb'.size, by (repeat' (first | with_reducible exact Below.refl _ _ | with_reducible assumption | with_reducible refine q_alloc ?_ _ | with_reducible refine q_drew ?_ | with_reducible refine q_drewN _ ?_ | with_reducible refine q_setCell ?_ ?_ _ | (left; simp; done) | (right; simp; done) | (right; dsimp only; omega) | (left; dsimp only; omega))), Blk.new rfl, hT5.below (q_alloc (Below.refl _ _) _)⟩))
      case rest =>
        obtain ⟨dd, a5, cap5, m5, rfl, rfl, rfl, hdd, hb, hu, hT5⟩ := hcut
        have n1 : ¬ dd = c := by omega
        have n2 : ¬ dd = c + 1 := by omega
        replace hq := q_step hq hb
        replace hblk := hblk.below hb
        replace hd := hd.below hb
        clear hb c0 c1 z0 z1 z2 hT hdd d0
        have hz0 := HZ0.out
        have hkv := HKV.out
        by_cases hE : (internL more s false).2.2 = 0
        · have HVS2 : vsL (internL more s false).1 ss (k + 1) = vk.set k (u3 (internL more s false).2.1) := by have := HVS.out; rw [if_pos hE] at this; exact this
          clear HVS
          rw [hE]
          generalize (internL more s false).2.1 = A at HVS2 ⊢
          have HV3 := Lib.hid HVS2
          clear HVS2 hE
          have hdc0 := hd.cell k hz0
          have hdf0 := hd.froz k hz0
          have z2 := hd.lt
          go_upto_region 13 with fail
          refine code_world (fun W => Below w.heap.size w W ∧ Blk W c [.slice a more.length capT, .map m] ∧ Blk W (c + 1) (vk.set k (u3 A)) ∧ Blk W dd [.slice a5 (internL more s false).1.length cap5, .map m5] ∧ TabX (fun x => x = c ∨ x = c + 1) W (.slice a5 (internL more s false).1.length cap5) (.map m5) (internL more s false).1) ⟨q_setCell hq (Or.inr (by show w.heap.size ≤ c + 1; omega)) _, hblk.set_far (p := ⟨c + 1, k, none⟩) (by show c + 1 ≠ c; omega) _, hd.set k _ hkv rfl, hu.set_far (p := ⟨c + 1, k, none⟩) (Ne.symm n2) _, hT5.set1 (Or.inr rfl)⟩ ?_
          intro W6 ⟨hq6, hblk6, hd6, hu6, hT6⟩
          clear hq hblk hd hu hT5 hdc0 hdf0 z2 hz0 hkv
          have c0 := hblk6.cell 0 rfl
          have c1 := hblk6.cell 1 rfl
          have f0 := hblk6.froz 0 rfl
          have f1 := hblk6.froz 1 rfl
          have z0 := hblk6.lt
          have u0 := hu6.cell 0 rfl
          have u1 := hu6.cell 1 rfl
          have z3 := hu6.lt
          go_wp2_with fail
          go_roundw
          case rel => exact ⟨k + 1, (internL more s false).1, by go_num, by go_num, HMF.out.symm, HKN.out, set2_q hq6 hcw, VarX.put hblk6 hT6 (Or.inl rfl), by rw [HV3.out]; exact (hd6.set_far (p := ⟨c, 0, none⟩) (by show c ≠ c + 1; omega) _).set_far (p := ⟨c, 1, none⟩) (by show c ≠ c + 1; omega) _⟩
          case measure => simp [intOf]; omega
        · have HVS2 : vsL (internL more s false).1 ss (k + 1) = vk := by have := HVS.out; rw [if_neg hE] at this; exact this
          clear HVS
          have hE2 : ((internL more s false).2.2 == 0) = false := by simpa using hE
          generalize (internL more s false).2.2 = E at hE2 ⊢
          generalize (internL more s false).2.1 = A
          have HV3 := Lib.hid HVS2
          clear HVS2 hE
          have c0 := hblk.cell 0 rfl
          have c1 := hblk.cell 1 rfl
          have f0 := hblk.froz 0 rfl
          have f1 := hblk.froz 1 rfl
          have z0 := hblk.lt
          have u0 := hu.cell 0 rfl
          have u1 := hu.cell 1 rfl
          have z3 := hu.lt
          go_wp2_with fail
          go_roundw
          case rel => exact ⟨k + 1, (internL more s false).1, by go_num, by go_num, HMF.out.symm, HKN.out, set2_q hq hcw, VarX.put hblk hT5 (Or.inl rfl), by rw [HV3.out]; exact (hd.set_far (p := ⟨c, 0, none⟩) (by show c ≠ c + 1; omega) _).set_far (p := ⟨c, 1, none⟩) (by show c ≠ c + 1; omega) _⟩
          case measure => simp [intOf]; omega
    · obtain rfl : k = ss.length := by omega
      rw [List.take_length] at hmf
      have hml : more.length ≤ 40 := by have := foldI_len40 ss ss.length hl40; rw [List.take_length, ← hmf] at this; exact this
      clear hmf hk hlt
      have HKN := Lib.hid hkn
      clear hkn
      obtain ⟨a, capT, m, hblk, hT⟩ := hv
      have hc0 := hblk.cell 0 rfl
      have hc1 := hblk.cell 1 rfl
      have hca := fun i s h => hd.cell i (vsL_all more ss i s h)
      have HCA := Lib.hid hca
      have HT := Lib.hid hT
      have HC0 := Lib.hid hc0
      have HC1 := Lib.hid hc1
      clear hca hblk hd hT hc0 hc1
      clear hcw
      obtain ⟨W0, rfl⟩ : ∃ W0 : World, W0 = wr := ⟨_, rfl⟩
      have J0 : Below W0.heap.size W0 W0 := Below.refl _ _
      go_wp2_with fail
      go_loopw [9] (fun i wr => ∃ (k : Nat), k ≤ ss.length ∧ i = .int .i64 k ∧ Below W0.heap.size W0 wr)
        (fun i _ => ss.length - (intOf i).toNat)
      case atStart => exact ⟨0, by omega, rfl, J0⟩
      case round =>
        clear J0
        obtain ⟨k, hk, rfl, J⟩ := hrel
        by_cases hlt : k < ss.length
        · obtain ⟨b, off, rfl, hcap, hcm, hb, hL⟩ := isStrs_pos HI0.out (by omega)
          have hlk : ss[k]? = some ss[k] := List.getElem?_eq_getElem hlt
          have HLL := Lib.hid (hL.below hq)
          have s0 := stick (hL.below hq k _ hlk)
          have s1 := stick (HCA.out k _ hlk)
          have s2 := stick HC0.out
          have s3 := stick HC1.out
          clear hL
          have hkn := HKN.out ss[k] (by rw [List.take_length]; exact List.getElem_mem hlt)
          have hin := atomL_inj more ss[k]
          have hnm := nameL_atom more ss[k]
          have hle := atomL_le more ss[k]
          clear hlk
          generalize ss[k] = s at s0 hkn hin hnm s1 hle
          generalize atomL more s = A at hkn hin hnm s1 hle
          have HIN := Lib.hid hin
          have HQ := Lib.hid hq
          clear hin hq hb hkn
          have G1 := Lib.hid (rfl : (1 : Nat) = 1)
          by_cases hA : A = 0
          · subst hA
            have HNM := Lib.hid (nameL_zero (knownL ++ more))
            clear hnm
            go_upto_region 17 with fail
            go_region_held3 (fun w' => Below W0.heap.size W0 w')
              (first | exact J | exact J.drew)
              (first | (go_at_call 17; have g1 := G1; refine (name_any _ _ more 0 _ ?_ (by omega) (HT.out.1.below (by first | exact J | exact J.drew)) (by omega) (by omega)).mono ?_; (first | exact HS.out.below (q_step HQ.out (by first | exact J | exact J.drew))); rintro e w5 ⟨rfl, hb⟩; rw [HNM.out]; (first | replace J := q_step J hb | replace J := q_step J (below_drew hb)); clear hb g1 G1))
            all_goals
              go_wp2_with fail
              go_loopw [12] (fun i wr => ∃ (j : Nat), j ≤ k ∧ i = .int .i64 j ∧ Below W0.heap.size W0 wr)
                (fun i _ => k - (intOf i).toNat)
              case atStart => exact ⟨0, by omega, rfl, J⟩
              case round =>
                clear J
                obtain ⟨j, hj, rfl, J⟩ := hrel
                by_cases hjk : j < k
                · go_upto_region 23 with fail
                  go_quiet (fail)
                  go_wp2_with fail
                  go_roundw
                  case rel => exact ⟨j + 1, by omega, by go_num, by first | exact J | exact q_drewN _ J | exact J.drew⟩
                  case measure => simp [intOf]; omega
                · obtain rfl : k = j := by omega
                  go_wp2_with fail
                  go_roundw
                  case rel => exact ⟨k + 1, by go_num, by go_num, by first | exact J | exact q_drewN _ J | exact J.drew⟩
                  case measure => simp [intOf]; omega
          · have HNM := Lib.hid (hnm hA)
            clear hnm
            have hA2 : ((A : Int) == 0) = false := by simp; omega
            have hA3 : ((A : Int) != 0) = true := by simp; omega
            go_upto_region 17 with fail
            go_region_held3 (fun w' => Below W0.heap.size W0 w')
              (first | exact J | exact J.drew)
              (first | (go_at_call 17; have g1 := G1; refine (name_any _ _ more (A : Int) _ ?_ (by omega) (HT.out.1.below (by first | exact J | exact J.drew)) (by omega) (by omega)).mono ?_; (first | exact HS.out.below (q_step HQ.out (by first | exact J | exact J.drew))); rintro e w5 ⟨rfl, hb⟩; rw [HNM.out]; (first | replace J := q_step J hb | replace J := q_step J (below_drew hb)); clear hb g1 G1))
            all_goals
              go_wp2_with fail
              go_loopw [12] (fun i wr => ∃ (j : Nat), j ≤ k ∧ i = .int .i64 j ∧ Below W0.heap.size W0 wr)
                (fun i _ => k - (intOf i).toNat)
              case atStart => exact ⟨0, by omega, rfl, J⟩
              case round =>
                clear J
                obtain ⟨j, hj, rfl, J⟩ := hrel
                by_cases hjk : j < k
                · have hlj : ss[j]? = some ss[j] := List.getElem?_eq_getElem (by omega)
                  have x0 := stick (HLL.out j _ hlj)
                  have x1 := stick (HCA.out j _ hlj)
                  have hin := HIN.out ss[j] hA
                  have hlx := atomL_le more ss[j]
                  clear hlj
                  generalize ss[j] = x at x0 x1 hin hlx
                  generalize atomL more x = AX at x1 hin hlx
                  by_cases hsx : s = x
                  · subst hsx
                    have hAX := hin.2 rfl
                    subst hAX
                    clear hin
                    go_upto_region 23 with fail
                    go_quiet (fail)
                    go_wp2_with fail
                    go_roundw
                    case rel => exact ⟨j + 1, by omega, by go_num, by first | exact J | exact q_drewN _ J | exact J.drew⟩
                    case measure => simp [intOf]; omega
                  · have hAX : ¬ A = AX := fun e => hsx (hin.1 e)
                    have hAX2 : ((A : Int) == (AX : Int)) = false := by simp; omega
                    have hsx2 : (s == x) = false := by simp [hsx]
                    clear hin
                    go_upto_region 23 with fail
                    go_quiet (fail)
                    go_wp2_with fail
                    go_roundw
                    case rel => exact ⟨j + 1, by omega, by go_num, by first | exact J | exact q_drewN _ J | exact J.drew⟩
                    case measure => simp [intOf]; omega
                · obtain rfl : k = j := by omega
                  go_wp2_with fail
                  go_roundw
                  case rel => exact ⟨k + 1, by go_num, by go_num, by first | exact J | exact q_drewN _ J | exact J.drew⟩
                  case measure => simp [intOf]; omega
        · obtain rfl : k = ss.length := by omega
          have hq9 := q_step hq J
          go_wp2_with fail
          go_returns
          exact ⟨rfl, hq9⟩
end Go.Proofs.YtdkdpjlkjamemaaDoor
