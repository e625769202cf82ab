/- Layer 9: tables in several variables. -/
import Derived.Test.YtdkdpjlkjamemaaDoorAtom13
namespace Go.Proofs.YtdkdpjlkjamemaaDoor
open Go Go.RowKit Go.Maps
set_option linter.unusedSimpArgs false
set_option linter.unusedVariables false
/-- What a table holds when the names were asked for, one by one. -/
def foldI (more l : List B) : List B := l.foldl (fun m s => (internL m s false).1) more
theorem foldI_step (more l : List B) (k : Nat) (s : B) (h : l[k]? = some s) : foldI more (l.take (k + 1)) = (internL (foldI more (l.take k)) s false).1 := by
  unfold foldI
  rw [List.take_add_one, h, List.foldl_append]
  rfl
theorem foldI_zero (more l : List B) : foldI more (l.take 0) = more := rfl
theorem internL_prefix (more : List B) (s : B) (o : Bool) : more <+: (internL more s o).1 := by
  unfold internL
  repeat' split
  all_goals first | exact List.prefix_refl _ | exact List.prefix_append _ _
theorem foldI_prefix : ∀ (l more : List B), more <+: foldI more l
  | [], more => List.prefix_refl _
  | s :: l, more => (internL_prefix more s false).trans (foldI_prefix l _)
theorem foldI_len : ∀ (l more : List B), (foldI more l).length ≤ more.length + l.length
  | [], more => Nat.le_refl _
  | s :: l, more => by
    have h1 := foldI_len l (internL more s false).1
    have h2 := internL_len more s false
    show (foldI (internL more s false).1 l).length ≤ _
    simp only [List.length_cons]
    omega
/-- The table, none of whose blocks meets X. -/
def TabX (X : Nat → Prop) (w : World) (sv mv : Value) (more : List B) : Prop := TabOf w sv mv more ∧ ∀ c, X c → VNe c sv ∧ MNe c mv
theorem TabX.below {X : Nat → Prop} {w w' : World} {sv mv : Value} {more : List B} (h : TabX X w sv mv more) (hb : Below w.heap.size w w') : TabX X w' sv mv more := ⟨h.1.below hb, h.2⟩
theorem TabX.set {X : Nat → Prop} {c j : Nat} {w : World} {sv mv u : Value} {more : List B} (h : TabX X w sv mv more) (hc : X c) : TabX X (w.setCell ⟨c, j, none⟩ u) sv mv more :=
  ⟨(TabNe.set (c := c) ⟨h.1, h.2 c hc⟩).1, h.2⟩
theorem TabX.of {X : Nat → Prop} {w : World} {sv mv : Value} {more : List B} (h : TabOf w sv mv more) (hx : ∀ c, X c → w.heap.size ≤ c) : TabX X w sv mv more :=
  ⟨h, fun c hc => (TabLo.ne (lo := 0) ⟨h, fun _ _ _ _ _ => Nat.zero_le _, fun _ _ => Nat.zero_le _⟩ (hx c hc)).2⟩
theorem internX_any (X : Nat → Prop) (sv mv : Value) (more : List B) (s : B) (only : Bool) (w : World) (hs : RowAt 0 knownCells w) (hsl : s.length ≤ 100000) (hml : more.length ≤ 100000) (hT : TabX X w sv mv more) (hlo : ∀ c, X c → c < w.heap.size) :
    Calls Tryd.prog 12 #[.agg #[sv, mv], strV s, .bool only] w fun e w' => ∃ a cap m, e = .returned (.tuple #[.agg #[.slice a (internL more s only).1.length cap, .map m], u3 (internL more s only).2.1, i6 (internL more s only).2.2]) ∧ TabX X w' (.slice a (internL more s only).1.length cap) (.map m) (internL more s only).1 ∧ Below w.heap.size w w' := by
  refine (intern_any sv mv more s only w hs hsl hml hT.1).mono ?_
  rintro e w' ⟨sv', mv', rfl, hT', hb, hn⟩
  obtain ⟨a, cap, m, rfl, rfl⟩ := hT'.forms
  refine ⟨a, cap, m, rfl, ⟨hT', fun c hc => ?_⟩, hb⟩
  have hlo := hlo c hc
  rcases hn with ⟨h1, h2⟩ | ⟨h1, h2⟩
  · rw [h1, h2]; exact hT.2 c hc
  · exact ⟨fun b off n cap e => by have := h1 b off n cap e; omega, fun b e => by have := h2 b e; omega⟩
theorem tabX_zero {X : Nat → Prop} (w : World) : TabX X w (.slice none 0 0) (.map none) [] := ⟨Or.inl ⟨rfl, rfl, rfl⟩, fun _ _ => ⟨fun _ _ _ _ e => by simp at e, fun _ e => by simp at e⟩⟩
/-- A variable, in block c, that holds a table of these names. -/
def VarX (X : Nat → Prop) (c : Nat) (l : List B) (w : World) : Prop :=
  ∃ a cap m, Blk w c [.slice a l.length cap, .map m] ∧ TabX X w (.slice a l.length cap) (.map m) l
theorem VarX.below {X : Nat → Prop} {c : Nat} {l : List B} {w w' : World} (h : VarX X c l w) (hb : Below w.heap.size w w') : VarX X c l w' := by
  obtain ⟨a, cap, m, h1, h2⟩ := h
  exact ⟨a, cap, m, h1.below hb, h2.below hb⟩
theorem VarX.far {X : Nat → Prop} {c c' : Nat} {l : List B} {w : World} {u v : Value} (h : VarX X c l w) (hx : X c') (hne : c' ≠ c) : VarX X c l ((w.setCell ⟨c', 0, none⟩ u).setCell ⟨c', 1, none⟩ v) := by
  obtain ⟨a, cap, m, h1, h2⟩ := h
  exact ⟨a, cap, m, (h1.set_far (p := ⟨c', 0, none⟩) hne u).set_far (p := ⟨c', 1, none⟩) hne v, (h2.set hx).set hx⟩
theorem VarX.put {X : Nat → Prop} {c : Nat} {l : List B} {w : World} {u v : Value} {a : Option Addr} {cap : Nat} {m : Option Nat} (h : Blk w c [u, v]) (hT : TabX X w (.slice a l.length cap) (.map m) l) (hx : X c) :
    VarX X c l ((w.setCell ⟨c, 0, none⟩ (.slice a l.length cap)).setCell ⟨c, 1, none⟩ (.map m)) :=
  ⟨a, cap, m, h.set2, (hT.set hx).set hx⟩
theorem j_step {wr w w' : World} {c d : Nat} {x0 x1 y0 y1 : Value} (h : Below wr.heap.size wr w ∧ w.cell? ⟨c, 0, none⟩ = some x0 ∧ w.cell? ⟨c, 1, none⟩ = some x1 ∧ w.cell? ⟨d, 0, none⟩ = some y0 ∧ w.cell? ⟨d, 1, none⟩ = some y1) (hb : Below w.heap.size w w') :
    Below wr.heap.size wr w' ∧ w'.cell? ⟨c, 0, none⟩ = some x0 ∧ w'.cell? ⟨c, 1, none⟩ = some x1 ∧ w'.cell? ⟨d, 0, none⟩ = some y0 ∧ w'.cell? ⟨d, 1, none⟩ = some y1 :=
  ⟨q_step h.1 hb, cell_below hb h.2.1, cell_below hb h.2.2.1, cell_below hb h.2.2.2.1, cell_below hb h.2.2.2.2⟩
theorem rsame_eq (v u : Value) (l : List B) (w : World) (h1 : IsStrs w v l) (h2 : IsStrs w u l) (hl : l.length ≤ 100000) :
    Calls Tryd.prog 14 #[v, u] w fun e w' => e = .returned (.bool true) ∧ Below w.heap.size w w' :=
  (rsame_any v u l l w h1 h2 hl).mono fun _ _ h => ⟨by rw [h.1]; simp, h.2⟩
theorem AllS.take {w : World} {b off n cap k : Nat} {l l' : List B} (h : AllS w b off n cap l) (hp : l' <+: l) (hk : k = l'.length) (h0 : 0 < k) : IsStrs w (.slice (some ⟨b, off, none⟩) k cap) l' := by
  obtain ⟨h1, h2, h3, h4, h5⟩ := h
  obtain ⟨t, rfl⟩ := hp
  subst hk
  refine Or.inr ⟨b, off, cap, rfl, h0, ?_, h3, h4, fun j s hj => h5 j s ?_⟩
  · simp only [List.length_append] at h1; omega
  · rw [List.getElem?_append_left (List.getElem?_eq_some_iff.mp hj).1]; exact hj
theorem AllS.is {w : World} {b off n cap : Nat} {l : List B} (h : AllS w b off n cap l) (h0 : 0 < n) : IsStrs w (.slice (some ⟨b, off, none⟩) n cap) l := h.take (List.prefix_refl _) h.1 h0
theorem VarX.lt {X : Nat → Prop} {c : Nat} {l : List B} {w : World} (h : VarX X c l w) : c < w.heap.size := by
  obtain ⟨a, cap, m, h1, h2⟩ := h
  exact h1.lt
/-- Three variables behind a world that stays. -/
def Three (W0 : World) (C1 C2 C3 : Nat) (u v z : List B) (w : World) : Prop :=
  Below W0.heap.size W0 w ∧ VarX (fun c => c = C1 ∨ c = C2 ∨ c = C3) C1 u w ∧ VarX (fun c => c = C1 ∨ c = C2 ∨ c = C3) C2 v w ∧ VarX (fun c => c = C1 ∨ c = C2 ∨ c = C3) C3 z w
set_option maxRecDepth 100000 in
set_option maxHeartbeats 4000000 in
theorem lsplits_any (a0 a1 a2 : Option Addr) (cap0 cap1 cap2 : Nat) (ss xs ys : List B) (w : World) (hs : RowAt 0 knownCells w) (hl0 : IsStrs w (.slice a0 ss.length cap0) ss) (hl1 : IsStrs w (.slice a1 xs.length cap1) xs) (hl2 : IsStrs w (.slice a2 ys.length cap2) ys) :
    Calls Tryd.prog 8 #[.slice a0 ss.length cap0, .slice a1 xs.length cap1, .slice a2 ys.length cap2] w fun e w' => e = .returned (.bool true) ∧ Below w.heap.size w w' := by
  have HS := Lib.hid hs
  have HI0 := Lib.hid hl0
  have HI1 := Lib.hid hl1
  have HI2 := Lib.hid hl2
  clear hs hl0 hl1 hl2
  go_enter Tryd.func8, Tryd.ntmps8
  go_wp2_with fail
  refine (awake09 _ HS.out).mono ?_
  rintro e w1 ⟨rfl, hq1⟩
  go_wp2_with fail
  refine (short_any _ ss 20 _ (HI0.out.below hq1) (by decide)).mono ?_
  rintro e w2 ⟨r, rfl, hr0, rfl⟩
  cases r with
  | false => go_wp2_with fail; go_returns; exact ⟨rfl, hq1⟩
  | true =>
  go_wp2_with fail
  refine (short_any _ xs 20 _ (HI1.out.below hq1) (by decide)).mono ?_
  rintro e w2 ⟨r, rfl, hr1, rfl⟩
  cases r with
  | false => go_wp2_with fail; go_returns; exact ⟨rfl, hq1⟩
  | true =>
  go_wp2_with fail
  refine (short_any _ ys 20 _ (HI2.out.below hq1) (by decide)).mono ?_
  rintro e w2 ⟨r, rfl, hr2, rfl⟩
  cases r with
  | false => go_wp2_with fail; go_returns; exact ⟨rfl, hq1⟩
  | true =>
  obtain ⟨hl20, hs0⟩ := hr0 rfl
  obtain ⟨ha20, hs1⟩ := hr1 rfl
  obtain ⟨hb20, hs2⟩ := hr2 rfl
  have HT0 := Lib.hid hs0
  have HT1 := Lib.hid hs1
  have HT2 := Lib.hid hs2
  clear hs0 hs1 hs2 hr0 hr1 hr2
  go_wp2_with fail
  have hcw := hq1.size
  refine code_world (fun W => Below w.heap.size w W ∧ VarX (fun c => c = w1.heap.size) w1.heap.size [] W) ⟨by (repeat' (first | with_reducible exact Below.refl _ _ | with_reducible assumption | with_reducible refine q_alloc ?_ _ | with_reducible refine q_drew ?_ | with_reducible refine q_drewN _ ?_ | with_reducible refine q_setCell ?_ ?_ _ | (left; simp; done) | (right; simp; done) | (right; dsimp only; omega) | (left; dsimp only; omega))), none, 0, none, Blk.new rfl, tabX_zero _⟩ ?_
  intro W2 ⟨hq2, hv2⟩
  clear hq1
  generalize w1.heap.size = c at hcw hv2 ⊢
  go_loopw [8] (fun i wr => ∃ k : Nat, k ≤ ss.length ∧ i = .int .i64 k ∧ Below w.heap.size w wr ∧ VarX (fun x => x = c) c (foldI [] (ss.take k)) wr)
    (fun i _ => ss.length - (intOf i).toNat)
  case atStart => exact ⟨0, by omega, rfl, hq2, hv2⟩
  case round =>
    clear hq2 hv2
    obtain ⟨k, hk, rfl, hq, hv⟩ := hrel
    have hmk := foldI_len (ss.take k) []
    simp only [List.length_nil, Nat.zero_add, List.length_take] at hmk
    by_cases hlt : k < ss.length
    · generalize hhm : ([] : List B) = hmore at hv hmk
      have hlk : ss[k]? = some ss[k] := List.getElem?_eq_getElem hlt
      obtain ⟨b, off, rfl, hcap, hcm, hb, hL⟩ := isStrs_pos HI0.out (by omega)
      have d0 := hL.below hq k _ hlk
      clear hL
      have hs3 := HT0.out _ (List.getElem_mem hlt)
      have hst := foldI_step hmore ss k _ hlk
      clear hlk
      generalize ss[k] = s at d0 hs3 hst
      obtain ⟨a, capT, m, hblk, hT⟩ := hv
      generalize hmo : foldI hmore (ss.take k) = more at hblk hT hmk hst
      have c0 := hblk.cell 0 rfl
      have c1 := hblk.cell 1 rfl
      have z0 := hblk.lt
      have z1 := block_lt_of_cell d0
      dsimp only at z1
      have f0 := hblk.froz 0 rfl
      have f1 := hblk.froz 1 rfl
      go_upto_region 9 with fail
      go_region_with (first
        | (go_at_call 12; refine (internX_any (fun x => x = c) _ _ more s false _ ?_ (by omega) (by omega) ?_ ?_).mono ?_; exact HS.out.below (q_step hq (by (repeat' (first | with_reducible exact Below.refl _ _ | with_reducible assumption | with_reducible refine q_alloc ?_ _ | with_reducible refine q_drew ?_ | with_reducible refine q_drewN _ ?_ | with_reducible refine q_setCell ?_ ?_ _ | (left; simp; done) | (right; simp; done) | (right; dsimp only; omega) | (left; dsimp only; omega))))); exact hT.below (by (repeat' (first | with_reducible exact Below.refl _ _ | with_reducible assumption | with_reducible refine q_alloc ?_ _ | with_reducible refine q_drew ?_ | with_reducible refine q_drewN _ ?_ | with_reducible refine q_setCell ?_ ?_ _ | (left; simp; done) | (right; simp; done) | (right; dsimp only; omega) | (left; dsimp only; omega)))); (rintro x rfl; first | exact z0 | (simp; omega)); rintro e w5 ⟨a5, cap5, m5, rfl, hT5, hb⟩; have hb' : Below wr.heap.size wr w5 := q_step (by (repeat' (first | with_reducible exact Below.refl _ _ | with_reducible assumption | with_reducible refine q_alloc ?_ _ | with_reducible refine q_drew ?_ | with_reducible refine q_drewN _ ?_ | with_reducible refine q_setCell ?_ ?_ _ | (left; simp; done) | (right; simp; done) | (right; dsimp only; omega) | (left; dsimp only; omega)))) hb; have hblk5 := hblk.below hb'; have hq5 := q_step hq hb'; have c0 := hblk5.cell 0 rfl; have c1 := hblk5.cell 1 rfl; have f0 := hblk5.froz 0 rfl; have f1 := hblk5.froz 1 rfl; have z0 := hblk5.lt; clear hb))
      all_goals
        go_wp2_with fail
        go_roundw
        case rel =>
          exact ⟨k + 1, by go_num, by go_num, set2_q hq5 hcw, by rw [hst]; exact VarX.put hblk5 hT5 rfl⟩
        case measure => simp [intOf]; omega
    · obtain rfl : k = ss.length := by omega
      rw [List.take_length] at hv hmk
      clear hlt hk HI0 HT0
      generalize foldI [] ss = M at hv hmk
      obtain ⟨a, capT, m, hblk, hT⟩ := hv
      have c0 := hblk.cell 0 rfl
      have c1 := hblk.cell 1 rfl
      have z0 := hblk.lt
      go_wp2_with fail
      refine (all_any _ _ M _ (HS.out.below hq) (by omega) hT.1).mono ?_
      rintro e w0 ⟨v, rfl, hA0, hb⟩
      replace hq := q_step hq hb
      replace hT := hT.below hb
      replace hblk := hblk.below hb
      clear hb c0 c1 z0
      obtain ⟨wb, wo, wcap, wn, rfl, hn10, hW⟩ := allS hA0
      clear hA0
      have c0 := hblk.cell 0 rfl
      have c1 := hblk.cell 1 rfl
      have z0 := hblk.lt
      go_upto_region 11 with fail
      go_cut [10, 11, 12] from 13 (fun p q r wx => ∃ C1 C2 C3, p = .pointer (some ⟨C1, 0, none⟩) ∧ q = .pointer (some ⟨C2, 0, none⟩) ∧ r = .pointer (some ⟨C3, 0, none⟩) ∧ (C1 ≠ C2 ∧ C1 ≠ C3 ∧ C2 ≠ C3 ∧ w0.heap.size ≤ C1 ∧ w0.heap.size ≤ C2 ∧ w0.heap.size ≤ C3) ∧ Below w0.heap.size w0 wx ∧ Blk wx C1 [.slice a M.length capT, .map m] ∧ Blk wx C2 [.slice a M.length capT, .map m] ∧ Blk wx C3 [.slice a M.length capT, .map m])
      case first =>
        have cc0 : ∀ o o' o'' : Obj, (((w0.alloc o).alloc o').alloc o'').cell? ⟨c, 0, none⟩ = some (.slice a M.length capT) := fun o o' o'' => (((hblk.alloc o).alloc o').alloc o'').cell 0 rfl
        have cc1 : ∀ o o' o'' : Obj, (((w0.alloc o).alloc o').alloc o'').cell? ⟨c, 1, none⟩ = some (.map m) := fun o o' o'' => (((hblk.alloc o).alloc o').alloc o'').cell 1 rfl
        go_region
        all_goals
          go_wp2_with fail
          go_meet
          refine ⟨_, _, _, rfl, rfl, rfl, ⟨by omega, by omega, by omega, by omega, by omega, by omega⟩, by (repeat' (first | with_reducible exact Below.refl _ _ | with_reducible assumption | with_reducible refine q_alloc ?_ _ | with_reducible refine q_drew ?_ | with_reducible refine q_drewN _ ?_ | with_reducible refine q_setCell ?_ ?_ _ | (left; simp; done) | (right; simp; done) | (right; dsimp only; omega) | (left; dsimp only; omega))), ?_, ?_, ?_⟩
          all_goals (refine Blk.drew ?_; first | exact ((Blk.new rfl).alloc _).alloc _ | exact (blk_new1 rfl).alloc _ | exact blk_new2 rfl)
      case rest =>
        obtain ⟨C1, C2, C3, rfl, rfl, rfl, ⟨n12, n13, n23, l1, l2, l3⟩, hb, B1, B2, B3⟩ := hcut
        have hTX : TabX (fun x => x = C1 ∨ x = C2 ∨ x = C3) w0 (.slice a M.length capT) (.map m) M := TabX.of hT.1 (by rintro x (rfl | rfl | rfl) <;> assumption)
        have h3 : Three w0 C1 C2 C3 M M M _ := ⟨hb, ⟨a, capT, m, B1, hTX.below hb⟩, ⟨a, capT, m, B2, hTX.below hb⟩, ⟨a, capT, m, B3, hTX.below hb⟩⟩
        clear hb B1 B2 B3 c0 c1 z0
        have hqw := hq
        have hTt := hT.1
        clear hq hTX hT
        go_wp2_with fail
        go_loopw [13] (fun i wr => ∃ k : Nat, k ≤ xs.length ∧ i = .int .i64 k ∧ Three w0 C1 C2 C3 (foldI M (xs.take k)) M M wr)
          (fun i _ => xs.length - (intOf i).toNat)
        case atStart => exact ⟨0, by omega, rfl, h3⟩
        case round =>
          clear h3
          obtain ⟨k, hk, rfl, hB, hv, hv2, hv3⟩ := hrel
          have hq := q_step hqw hB
          have y1 := hv.lt
          have y2 := hv2.lt
          have y3 := hv3.lt
          have hmk := foldI_len (xs.take k) M
          simp only [List.length_take] at hmk
          by_cases hlt : k < xs.length
          · have hlk : xs[k]? = some xs[k] := List.getElem?_eq_getElem hlt
            obtain ⟨b, off, rfl, hcap, hcm, hb, hL⟩ := isStrs_pos HI1.out (by omega)
            have d0 := hL.below hq k _ hlk
            clear hL
            have hs3 := HT1.out _ (List.getElem_mem hlt)
            have hst := foldI_step M xs k _ hlk
            clear hlk
            generalize xs[k] = s at d0 hs3 hst
            obtain ⟨a, capT, m, hblk, hT⟩ := hv
            generalize hmo : foldI M (xs.take k) = more at hblk hT hmk hst
            have c0 := hblk.cell 0 rfl
            have c1 := hblk.cell 1 rfl
            have z0 := hblk.lt
            have z1 := block_lt_of_cell d0
            dsimp only at z1
            have f0 := hblk.froz 0 rfl
            have f1 := hblk.froz 1 rfl
            go_upto_region 15 with fail
            go_region_with (first
              | (go_at_call 12; refine (internX_any (fun x => x = C1 ∨ x = C2 ∨ x = C3) _ _ more s false _ ?_ (by omega) (by omega) ?_ ?_).mono ?_; exact HS.out.below (q_step hq (by (repeat' (first | with_reducible exact Below.refl _ _ | with_reducible assumption | with_reducible refine q_alloc ?_ _ | with_reducible refine q_drew ?_ | with_reducible refine q_drewN _ ?_ | with_reducible refine q_setCell ?_ ?_ _ | (left; simp; done) | (right; simp; done) | (right; dsimp only; omega) | (left; dsimp only; omega))))); exact hT.below (by (repeat' (first | with_reducible exact Below.refl _ _ | with_reducible assumption | with_reducible refine q_alloc ?_ _ | with_reducible refine q_drew ?_ | with_reducible refine q_drewN _ ?_ | with_reducible refine q_setCell ?_ ?_ _ | (left; simp; done) | (right; simp; done) | (right; dsimp only; omega) | (left; dsimp only; omega)))); (rintro x (rfl | rfl | rfl) <;> first | exact y1 | exact y2 | exact y3 | (simp; omega)); rintro e w5 ⟨a5, cap5, m5, rfl, hT5, hb⟩; have hb' : Below wr.heap.size wr w5 := q_step (by (repeat' (first | with_reducible exact Below.refl _ _ | with_reducible assumption | with_reducible refine q_alloc ?_ _ | with_reducible refine q_drew ?_ | with_reducible refine q_drewN _ ?_ | with_reducible refine q_setCell ?_ ?_ _ | (left; simp; done) | (right; simp; done) | (right; dsimp only; omega) | (left; dsimp only; omega)))) hb; have hblk5 := hblk.below hb'; have hq5 := q_step hq hb'; have c0 := hblk5.cell 0 rfl; have c1 := hblk5.cell 1 rfl; have f0 := hblk5.froz 0 rfl; have f1 := hblk5.froz 1 rfl; have z0 := hblk5.lt; clear hb))
            all_goals
              go_wp2_with fail
              go_roundw
              case rel =>
                exact ⟨k + 1, by go_num, by go_num, set2_q (q_step hB hb') l1, by rw [hst]; exact VarX.put hblk5 hT5 (Or.inl rfl), (hv2.below hb').far (Or.inl rfl) n12, (hv3.below hb').far (Or.inl rfl) n13⟩
              case measure => simp [intOf]; omega
          · obtain rfl : k = xs.length := by omega
            rw [List.take_length] at hv
            clear hlt hk hq y1 y2 y3 hmk
            generalize hU : foldI M xs = U at hv
            have h3 : Three w0 C1 C2 C3 U M M wr := ⟨hB, hv, hv2, hv3⟩
            clear hB hv hv2 hv3
            go_wp2_with fail
            go_loopw [14] (fun i wr => ∃ k : Nat, k ≤ ys.length ∧ i = .int .i64 k ∧ Three w0 C1 C2 C3 U (foldI M (ys.take k)) M wr)
              (fun i _ => ys.length - (intOf i).toNat)
            case atStart => exact ⟨0, by omega, rfl, h3⟩
            case round =>
              clear h3
              obtain ⟨k, hk, rfl, hB, hv1, hv, hv3⟩ := hrel
              have hq := q_step hqw hB
              have y1 := hv1.lt
              have y2 := hv.lt
              have y3 := hv3.lt
              have hmk := foldI_len (ys.take k) M
              simp only [List.length_take] at hmk
              by_cases hlt : k < ys.length
              · have hlk : ys[k]? = some ys[k] := List.getElem?_eq_getElem hlt
                obtain ⟨b, off, rfl, hcap, hcm, hb, hL⟩ := isStrs_pos HI2.out (by omega)
                have d0 := hL.below hq k _ hlk
                clear hL
                have hs3 := HT2.out _ (List.getElem_mem hlt)
                have hst := foldI_step M ys k _ hlk
                clear hlk
                generalize ys[k] = s at d0 hs3 hst
                obtain ⟨a, capT, m, hblk, hT⟩ := hv
                generalize hmo : foldI M (ys.take k) = more at hblk hT hmk hst
                have c0 := hblk.cell 0 rfl
                have c1 := hblk.cell 1 rfl
                have z0 := hblk.lt
                have z1 := block_lt_of_cell d0
                dsimp only at z1
                have f0 := hblk.froz 0 rfl
                have f1 := hblk.froz 1 rfl
                go_upto_region 19 with fail
                go_region_with (first
                  | (go_at_call 12; refine (internX_any (fun x => x = C1 ∨ x = C2 ∨ x = C3) _ _ more s false _ ?_ (by omega) (by omega) ?_ ?_).mono ?_; exact HS.out.below (q_step hq (by (repeat' (first | with_reducible exact Below.refl _ _ | with_reducible assumption | with_reducible refine q_alloc ?_ _ | with_reducible refine q_drew ?_ | with_reducible refine q_drewN _ ?_ | with_reducible refine q_setCell ?_ ?_ _ | (left; simp; done) | (right; simp; done) | (right; dsimp only; omega) | (left; dsimp only; omega))))); exact hT.below (by (repeat' (first | with_reducible exact Below.refl _ _ | with_reducible assumption | with_reducible refine q_alloc ?_ _ | with_reducible refine q_drew ?_ | with_reducible refine q_drewN _ ?_ | with_reducible refine q_setCell ?_ ?_ _ | (left; simp; done) | (right; simp; done) | (right; dsimp only; omega) | (left; dsimp only; omega)))); (rintro x (rfl | rfl | rfl) <;> first | exact y1 | exact y2 | exact y3 | (simp; omega)); rintro e w5 ⟨a5, cap5, m5, rfl, hT5, hb⟩; have hb' : Below wr.heap.size wr w5 := q_step (by (repeat' (first | with_reducible exact Below.refl _ _ | with_reducible assumption | with_reducible refine q_alloc ?_ _ | with_reducible refine q_drew ?_ | with_reducible refine q_drewN _ ?_ | with_reducible refine q_setCell ?_ ?_ _ | (left; simp; done) | (right; simp; done) | (right; dsimp only; omega) | (left; dsimp only; omega)))) hb; have hblk5 := hblk.below hb'; have hq5 := q_step hq hb'; have c0 := hblk5.cell 0 rfl; have c1 := hblk5.cell 1 rfl; have f0 := hblk5.froz 0 rfl; have f1 := hblk5.froz 1 rfl; have z0 := hblk5.lt; clear hb))
                all_goals
                  go_wp2_with fail
                  go_roundw
                  case rel =>
                    exact ⟨k + 1, by go_num, by go_num, set2_q (q_step hB hb') l2, (hv1.below hb').far (Or.inr (Or.inl rfl)) n12.symm, by rw [hst]; exact VarX.put hblk5 hT5 (Or.inr (Or.inl rfl)), (hv3.below hb').far (Or.inr (Or.inl rfl)) n23⟩
                  case measure => simp [intOf]; omega
              · obtain rfl : k = ys.length := by omega
                rw [List.take_length] at hv
                clear hlt hk hq y1 y2 y3 hmk HI2 HT2
                generalize hV : foldI M ys = V at hv
                have h3 : Three w0 C1 C2 C3 U V M wr := ⟨hB, hv1, hv, hv3⟩
                clear hB hv hv1 hv3
                go_wp2_with fail
                go_loopw [15] (fun i wr => ∃ k : Nat, k ≤ xs.length ∧ i = .int .i64 k ∧ Three w0 C1 C2 C3 U V (foldI M (xs.take k)) wr)
                  (fun i _ => xs.length - (intOf i).toNat)
                case atStart => exact ⟨0, by omega, rfl, h3⟩
                case round =>
                  clear h3
                  obtain ⟨k, hk, rfl, hB, hv1, hv2, hv⟩ := hrel
                  have hq := q_step hqw hB
                  have y1 := hv1.lt
                  have y2 := hv2.lt
                  have y3 := hv.lt
                  have hmk := foldI_len (xs.take k) M
                  simp only [List.length_take] at hmk
                  by_cases hlt : k < xs.length
                  · have hlk : xs[k]? = some xs[k] := List.getElem?_eq_getElem hlt
                    obtain ⟨b, off, rfl, hcap, hcm, hb, hL⟩ := isStrs_pos HI1.out (by omega)
                    have d0 := hL.below hq k _ hlk
                    clear hL
                    have hs3 := HT1.out _ (List.getElem_mem hlt)
                    have hst := foldI_step M xs k _ hlk
                    clear hlk
                    generalize xs[k] = s at d0 hs3 hst
                    obtain ⟨a, capT, m, hblk, hT⟩ := hv
                    generalize hmo : foldI M (xs.take k) = more at hblk hT hmk hst
                    have c0 := hblk.cell 0 rfl
                    have c1 := hblk.cell 1 rfl
                    have z0 := hblk.lt
                    have z1 := block_lt_of_cell d0
                    dsimp only at z1
                    have f0 := hblk.froz 0 rfl
                    have f1 := hblk.froz 1 rfl
                    go_upto_region 23 with fail
                    go_region_with (first
                      | (go_at_call 12; refine (internX_any (fun x => x = C1 ∨ x = C2 ∨ x = C3) _ _ more s false _ ?_ (by omega) (by omega) ?_ ?_).mono ?_; exact HS.out.below (q_step hq (by (repeat' (first | with_reducible exact Below.refl _ _ | with_reducible assumption | with_reducible refine q_alloc ?_ _ | with_reducible refine q_drew ?_ | with_reducible refine q_drewN _ ?_ | with_reducible refine q_setCell ?_ ?_ _ | (left; simp; done) | (right; simp; done) | (right; dsimp only; omega) | (left; dsimp only; omega))))); exact hT.below (by (repeat' (first | with_reducible exact Below.refl _ _ | with_reducible assumption | with_reducible refine q_alloc ?_ _ | with_reducible refine q_drew ?_ | with_reducible refine q_drewN _ ?_ | with_reducible refine q_setCell ?_ ?_ _ | (left; simp; done) | (right; simp; done) | (right; dsimp only; omega) | (left; dsimp only; omega)))); (rintro x (rfl | rfl | rfl) <;> first | exact y1 | exact y2 | exact y3 | (simp; omega)); rintro e w5 ⟨a5, cap5, m5, rfl, hT5, hb⟩; have hb' : Below wr.heap.size wr w5 := q_step (by (repeat' (first | with_reducible exact Below.refl _ _ | with_reducible assumption | with_reducible refine q_alloc ?_ _ | with_reducible refine q_drew ?_ | with_reducible refine q_drewN _ ?_ | with_reducible refine q_setCell ?_ ?_ _ | (left; simp; done) | (right; simp; done) | (right; dsimp only; omega) | (left; dsimp only; omega)))) hb; have hblk5 := hblk.below hb'; have hq5 := q_step hq hb'; have c0 := hblk5.cell 0 rfl; have c1 := hblk5.cell 1 rfl; have f0 := hblk5.froz 0 rfl; have f1 := hblk5.froz 1 rfl; have z0 := hblk5.lt; clear hb))
                    all_goals
                      go_wp2_with fail
                      go_roundw
                      case rel =>
                        exact ⟨k + 1, by go_num, by go_num, set2_q (q_step hB hb') l3, (hv1.below hb').far (Or.inr (Or.inr rfl)) n13.symm, (hv2.below hb').far (Or.inr (Or.inr rfl)) n23.symm, by rw [hst]; exact VarX.put hblk5 hT5 (Or.inr (Or.inr rfl))⟩
                      case measure => simp [intOf]; omega
                  · obtain rfl : k = xs.length := by omega
                    rw [List.take_length] at hv
                    clear hlt hk hq y1 y2 y3 hmk HI1 HT1
                    rw [hU] at hv
                    have h3 : Three w0 C1 C2 C3 U V U wr := ⟨hB, hv1, hv2, hv⟩
                    clear hB hv hv1 hv2
                    obtain ⟨hB, ⟨b1, e1, g1, hk1, hT1⟩, ⟨b2, e2, g2, hk2, hT2⟩, ⟨b3, e3, g3, hk3, hT3⟩⟩ := h3
                    have hq := q_step hqw hB
                    have hlM : M.length ≤ 100000 := by omega
                    have hlM1 : (knownL ++ M).length ≤ 100000 := by rw [List.length_append]; show 10 + M.length ≤ 100000; omega
                    have hlU : U.length ≤ 100000 := by rw [← hU]; have := foldI_len xs M; omega
                    have hlU1 : (knownL ++ U).length ≤ 100000 := by rw [List.length_append, ← hU]; have := foldI_len xs M; show 10 + _ ≤ 100000; omega
                    have hlV : V.length ≤ 100000 := by rw [← hV]; have := foldI_len ys M; omega
                    have hpU : knownL ++ M <+: knownL ++ U := by rw [← hU]; exact (List.prefix_append_right_inj _).2 (foldI_prefix xs M)
                    have hpV : knownL ++ M <+: knownL ++ V := by rw [← hV]; exact (List.prefix_append_right_inj _).2 (foldI_prefix ys M)
                    have HPU := Lib.hid hpU
                    have HPV := Lib.hid hpV
                    have HW := Lib.hid hW
                    clear hU hV hpU hpV hW
                    have d10 := hk1.cell 0 rfl
                    have d11 := hk1.cell 1 rfl
                    have d20 := hk2.cell 0 rfl
                    have d21 := hk2.cell 1 rfl
                    have J : (Below wr.heap.size wr wr ∧ wr.cell? ⟨C1, 0, none⟩ = some (.slice b1 U.length e1) ∧ wr.cell? ⟨C1, 1, none⟩ = some (.map g1) ∧ wr.cell? ⟨C2, 0, none⟩ = some (.slice b2 V.length e2) ∧ wr.cell? ⟨C2, 1, none⟩ = some (.map g2)) := ⟨Below.refl _ _, d10, d11, d20, d21⟩
                    clear d10 d11 d20 d21
                    go_upto_region 24 with fail
                    go_cut [16, 17] from 103 (fun p q wx => IsStrs wx p (knownL ++ U) ∧ IsStrs wx q (knownL ++ V) ∧ Below wr.heap.size wr wx)
                    case first =>
                      go_region_held3 (fun w' => (Below wr.heap.size wr w' ∧ w'.cell? ⟨C1, 0, none⟩ = some (.slice b1 U.length e1) ∧ w'.cell? ⟨C1, 1, none⟩ = some (.map g1) ∧ w'.cell? ⟨C2, 0, none⟩ = some (.slice b2 V.length e2) ∧ w'.cell? ⟨C2, 1, none⟩ = some (.map g2)))
                        (first | exact J | exact ⟨q_drew J.1, J.2⟩)
                        (first
                        | (go_at_call_of 15 (Value.slice b1 U.length e1); refine (all_any _ _ U _ ?_ hlU ?_).mono ?_; (first | exact HS.out.below (q_step hq J.1) | exact HS.out.below (q_step hq (q_drew J.1))); (first | exact hT1.1.below J.1 | exact hT1.1.below (q_drew J.1)); rintro e w5 ⟨v1, rfl, hA1, hb⟩; (first | replace J := j_step J hb | (replace hb := below_drew hb; replace J := j_step J hb)); (try replace hA2 := hA2.below hb); clear hb)
                        | (go_at_call_of 15 (Value.slice b2 V.length e2); refine (all_any _ _ V _ ?_ hlV ?_).mono ?_; (first | exact HS.out.below (q_step hq J.1) | exact HS.out.below (q_step hq (q_drew J.1))); (first | exact hT2.1.below J.1 | exact hT2.1.below (q_drew J.1)); rintro e w5 ⟨v2, rfl, hA2, hb⟩; (first | replace J := j_step J hb | (replace hb := below_drew hb; replace J := j_step J hb)); (try replace hA1 := hA1.below hb); clear hb))
                      all_goals (go_wp2_with fail; go_meet; exact ⟨hA1, hA2, J.1⟩)
                    case rest =>
                      obtain ⟨hA1, hA2, hb⟩ := hcut
                      obtain ⟨ub, uo, ucap, un, rfl, hun, hAU⟩ := allS hA1
                      obtain ⟨vb, vo, vcap, vn, rfl, hvn, hAV⟩ := allS hA2
                      replace hB := q_step hB hb
                      replace hq := q_step hq hb
                      replace hk3 := hk3.below hb
                      replace hT3 := hT3.1.below hb
                      have hAW := HW.out.below hB
                      have hbc := hblk.below hB
                      have hTm := hTt.below hB
                      clear hA1 hA2 hb J hB hT1 hT2 hk1 hk2 HW
                      have p1 : (wn : Int) ≤ un := by have := HPU.out.length_le; have := hAW.1; have := hAU.1; omega
                      have p2 : (wn : Int) ≤ vn := by have := HPV.out.length_le; have := hAW.1; have := hAV.1; omega
                      have p3 : (wn : Int) ≤ ucap := by have := hAU.2.1; omega
                      have p4 : (wn : Int) ≤ vcap := by have := hAV.2.1; omega
                      have c0 := hbc.cell 0 rfl
                      have c1 := hbc.cell 1 rfl
                      have z0 := hbc.lt
                      go_wp2_with fail
                      refine (all_any _ _ M _ (HS.out.below hq) hlM hTm).mono ?_
                      rintro e w6 ⟨tv, rfl, hA3, hb⟩
                      replace hq := q_step hq hb
                      replace hk3 := hk3.below hb
                      replace hT3 := hT3.below hb
                      replace hAW := hAW.below hb
                      replace hAU := hAU.below hb
                      replace hAV := hAV.below hb
                      clear hb c0 c1 z0 hbc hTm
                      go_wp2_with fail
                      refine (rsame_eq _ _ (knownL ++ M) _ hA3 (hAW.is (by omega)) hlM1).mono ?_
                      rintro e w7 ⟨rfl, hb⟩
                      replace hq := q_step hq hb
                      replace hk3 := hk3.below hb
                      replace hT3 := hT3.below hb
                      replace hAW := hAW.below hb
                      replace hAU := hAU.below hb
                      replace hAV := hAV.below hb
                      clear hb hA3
                      have c0 := hk3.cell 0 rfl
                      have c1 := hk3.cell 1 rfl
                      have z0 := hk3.lt
                      go_wp2_with fail
                      refine (all_any _ _ U _ (HS.out.below hq) hlU hT3).mono ?_
                      rintro e w8 ⟨wv, rfl, hA4, hb⟩
                      replace hq := q_step hq hb
                      replace hAW := hAW.below hb
                      replace hAU := hAU.below hb
                      replace hAV := hAV.below hb
                      clear hb hk3 hT3 c0 c1 z0
                      go_wp2_with fail
                      refine (rsame_eq _ _ (knownL ++ U) _ (hAU.is (by omega)) hA4 hlU1).mono ?_
                      rintro e w9 ⟨rfl, hb⟩
                      replace hq := q_step hq hb
                      replace hAW := hAW.below hb
                      replace hAU := hAU.below hb
                      replace hAV := hAV.below hb
                      clear hb hA4
                      go_wp2_with fail
                      refine (rsame_eq _ _ (knownL ++ M) _ (hAU.take HPU.out hAW.1 (by omega)) (hAW.is (by omega)) hlM1).mono ?_
                      rintro e wA ⟨rfl, hb⟩
                      replace hq := q_step hq hb
                      replace hAW := hAW.below hb
                      replace hAV := hAV.below hb
                      clear hb hAU
                      go_wp2_with fail
                      refine (rsame_eq _ _ (knownL ++ M) _ (hAV.take HPV.out hAW.1 (by omega)) (hAW.is (by omega)) hlM1).mono ?_
                      rintro e wB ⟨rfl, hb⟩
                      replace hq := q_step hq hb
                      clear hb hAV hAW
                      go_wp2_with fail
                      go_returns
                      exact ⟨by first | rfl | simp, hq⟩
end Go.Proofs.YtdkdpjlkjamemaaDoor
