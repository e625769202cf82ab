/- Layer 38: PassiveFinds' walk. -/
import Derived.Test.YtmcndiljldbkcaaPs51
import Derived.Test.YtmcndiljldbkcaaPs52
import Derived.Test.YtmcndiljldbkcaaPs26
import Derived.Test.YtmcndiljldbkcaaPs11
namespace Go.Proofs.Ytmcndiljldbkcaa
open Go Go.RowKit
set_option linter.unusedSimpArgs false
set_option linter.unusedVariables false
theorem za0 {w : World} : Blk (w.alloc (.cells #[i6 0, u3 0, .bool false, i6 0, i6 0, .bool false, i6 0, i6 0, i6 0] 39)) w.heap.size [i6 0, u3 0, .bool false, i6 0, i6 0, .bool false, i6 0, i6 0, i6 0] := Blk.new rfl
theorem za0a {w : World} {o : Obj} : Blk ((w.alloc (.cells #[i6 0, u3 0, .bool false, i6 0, i6 0, .bool false, i6 0, i6 0, i6 0] 39)).alloc o) w.heap.size [i6 0, u3 0, .bool false, i6 0, i6 0, .bool false, i6 0, i6 0, i6 0] := (Blk.new rfl).alloc _
theorem ids_all' {w : World} {xs : List Ac} (hg : greatB xs = false) (hid : ∀ x ∈ xs, ∃ is, IdsAt w x is) : xs.length ≤ 60 ∧ ∀ x ∈ xs, ∃ is, IdsOf w x is := ids_all hg hid
theorem finds_end {b : Bool} {c m : Int} {is : List Int} {gs : List G} {x y : G} {o p : Bool} (h : FoundIs b c m is gs x o) (k : FoundIs b c m is gs y p) : p = o ∧ y = x := ⟨(found_same h k).1.symm, (found_same h k).2.symm⟩
set_option maxRecDepth 100000 in
set_option maxHeartbeats 16000000 in
theorem lfinds_any (A : Option Addr) (xcap : Nat) (xs : List Ac) (pa : Option Addr) (pn pc : Nat) (ps : List Int) (g : G) (w : World) (hv : IsAct w (.slice A xs.length xcap) xs) (hid : ∀ x ∈ xs, ∃ is, IdsAt w x is) (hs : IsInts w .u32 (.slice pa pn pc) ps) (hin : ps.length = pn) (hub : ∀ u ∈ ps, 0 ≤ u ∧ u < 4294967296) :
    Calls Try.prog 4 #[.slice A xs.length xcap, .slice pa pn pc, gV g] w fun e w' => e = .returned (.bool true) ∧ Below w.heap.size w w' := by
  obtain ⟨g0, g1, g2, g3, g4, g5, g6, g7, g8⟩ := g
  have HV := Lib.hid hv
  have HI := Lib.hid hid
  have HS := Lib.hid hs
  have HIN := Lib.hid hin
  have HUB := Lib.hid hub
  obtain ⟨GB, hGB⟩ : ∃ GB, greatB xs = GB := ⟨_, rfl⟩
  have HGB := Lib.hid hGB
  clear hGB hv hid hs hin hub
  obtain ⟨n, hn⟩ : ∃ n, xs.length = n := ⟨_, rfl⟩
  have HN := Lib.hid hn
  rw [hn] at HV ⊢
  clear hn
  go_enter Try.func4, Try.ntmps4
  go_wp2_with fail
  refine calls_world (fun W => Below w.heap.size w W ∧ Blk W w.heap.size [i6 g0, u3 g1, .bool g2, i6 g3, i6 g4, .bool g5, i6 g6, i6 g7, i6 g8]) ⟨by (repeat' (first | with_reducible exact Below.refl _ _ | with_reducible assumption | with_reducible refine q_alloc ?_ _ | with_reducible refine q_drew ?_ | with_reducible refine q_drewN _ ?_ | with_reducible refine q_setCell ?_ ?_ _ | (left; simp; done) | (right; simp; done) | (right; dsimp only; omega) | (left; dsimp only; omega))), Blk.new rfl⟩ ?_
  intro W1 ⟨hq1, b1⟩
  refine (great_any _ xs _ (HV.out.below hq1)).mono ?_
  rintro e w2 ⟨rfl, hb⟩
  rw [HGB.out]
  have hq2 := q_step hq1 hb
  have B2 := Lib.hid (b1.below hb)
  clear hq1 hb b1
  cases GB with
  | true =>
    go_wp2_with fail
    refine (awake38 _).mono ?_
    rintro e w3 ⟨rfl, hb⟩
    go_wp2_with fail
    go_returns
    exact ⟨by first | rfl | (simp; done), q_step hq2 hb⟩
  | false =>
    by_cases hpn : 30 < pn
    · have hpi : (30 : Int) < (pn : Int) := by omega
      clear hpn
      go_wp2_with fail
      refine (awake38 _).mono ?_
      rintro e w3 ⟨rfl, hb⟩
      go_wp2_with fail
      go_returns
      exact ⟨by first | rfl | (simp; done), q_step hq2 hb⟩
    · have hpi : ¬ (30 : Int) < (pn : Int) := by omega
      have HPN : Hid (pn ≤ 30) := Lib.hid (by omega)
      clear hpn
      obtain ⟨h60, hids⟩ := ids_all HGB.out HI.out
      have HK := Lib.hid hids
      clear hids
      go_wp2_with fail
      refine calls_world (fun W => Below w.heap.size w W ∧ Blk W w.heap.size [i6 g0, u3 g1, .bool g2, i6 g3, i6 g4, .bool g5, i6 g6, i6 g7, i6 g8]) ⟨by (repeat' (first | with_reducible exact Below.refl _ _ | with_reducible assumption | with_reducible refine q_alloc ?_ _ | with_reducible refine q_drew ?_ | with_reducible refine q_drewN _ ?_ | with_reducible refine q_setCell ?_ ?_ _ | (left; simp; done) | (right; simp; done) | (right; dsimp only; omega) | (left; dsimp only; omega))), B2.out⟩ ?_
      intro W3 ⟨hq3, b3⟩
      refine (played_any _ xs _ (HV.out.below hq3) h60 (fun x hx => by obtain ⟨is, h⟩ := HK.out x hx; exact ⟨is, h.below hq3⟩)).mono ?_
      rintro e w4 ⟨v4, m4, gs, rfl, hi, hj, _, hl, hb⟩
      have I4 := Lib.hid hi
      have J4 := Lib.hid hj
      have HL := Lib.hid hl
      obtain ⟨A4, cap4, rfl, _⟩ := hi
      obtain ⟨B4, bcap4, rfl, _⟩ := hj
      have hq4 := q_step hq3 hb
      have b4 := b3.below hb
      have zb := b4.lt
      clear hq3 hb hq2 b3 B2 hl
      go_upto_region 4 with fail
      refine code_world (fun W => Below w4.heap.size w4 W ∧ Blk W w4.heap.size [.slice A4 gs.length cap4]) ⟨by (repeat' (first | with_reducible exact Below.refl _ _ | with_reducible assumption | with_reducible refine q_alloc ?_ _ | with_reducible refine q_drew ?_ | with_reducible refine q_drewN _ ?_ | with_reducible refine q_setCell ?_ ?_ _ | (left; simp; done) | (right; simp; done) | (right; dsimp only; omega) | (left; dsimp only; omega))), Blk.new rfl⟩ ?_
      intro W5 ⟨hq5, c5⟩
      have hq15 := q_step hq4 hq5
      have b5 := b4.below hq5
      have d0 := c5.cell 0 rfl
      have e2 := b5.cell 2 rfl
      have e3 := b5.cell 3 rfl
      have e4 := b5.cell 4 rfl
      clear b4
      have B5 := Lib.hid b5
      clear b5
      go_wp2_with fail
      refine calls_world (fun W => Below W5.heap.size W5 W) (by (repeat' (first | with_reducible exact Below.refl _ _ | with_reducible assumption | with_reducible refine q_alloc ?_ _ | with_reducible refine q_drew ?_ | with_reducible refine q_drewN _ ?_ | with_reducible refine q_setCell ?_ ?_ _ | (left; simp; done) | (right; simp; done) | (right; dsimp only; omega) | (left; dsimp only; omega)))) ?_
      intro W6 hq6
      refine (find_any _ gs pa pn pc ps _ _ _ _ (I4.out.below (q_step hq5 hq6)) (by have := HL.out; omega) (ints_lower HS.out (q_step hq15 hq6)) HIN.out (by have := HPN.out; omega)).mono ?_
      rintro e w7 ⟨x, o, rfl, hfx, hb7⟩
      have hq7 := q_step hq6 hb7
      have HFX := Lib.hid hfx
      obtain ⟨x0, x1, x2, x3, x4, x5, x6, x7, x8⟩ := x
      clear d0 e2 e3 e4 hq6 hb7 hfx c5
      go_upto_region 7 with fail
      refine code_world (fun W => Below w7.heap.size w7 W ∧ Blk W w7.heap.size [i6 x0, u3 x1, .bool x2, i6 x3, i6 x4, .bool x5, i6 x6, i6 x7, i6 x8]) ⟨by (repeat' (first | with_reducible exact Below.refl _ _ | with_reducible assumption | with_reducible refine q_alloc ?_ _ | with_reducible refine q_drew ?_ | with_reducible refine q_drewN _ ?_ | with_reducible refine q_setCell ?_ ?_ _ | (left; simp; done) | (right; simp; done) | (right; dsimp only; omega) | (left; dsimp only; omega))), Blk.new rfl⟩ ?_
      intro W8 ⟨hq8, c8⟩
      have hq18 := q_step hq15 (q_step hq7 hq8)
      have b8 := B5.out.below (q_step hq7 hq8)
      have I8 := Lib.hid (J4.out.below (q_step hq5 (q_step hq7 hq8)))
      have t2 := stick (b8.cell 2 rfl)
      have t3 := stick (b8.cell 3 rfl)
      have t4 := stick (b8.cell 4 rfl)
      have zc := c8.lt
      have C8 := Lib.hid c8
      have S8 := Lib.hid (ints_lower HS.out hq18)
      have J : Below W8.heap.size W8 W8 := Below.refl _ _
      clear b8 c8 hq8 hq7 hq15 hq5 hq4
      go_cut [12, 13] from 42 to 55 (fun p q wx => ∃ d, p = .pointer (some ⟨d, 0, none⟩) ∧ q = .bool o ∧ Blk wx d [i6 x0, u3 x1, .bool x2, i6 x3, i6 x4, .bool x5, i6 x6, i6 x7, i6 x8] ∧ Below W8.heap.size W8 wx)
      case first =>
        go_region_held3 (fun w' => Below W8.heap.size W8 w')
          (first | with_reducible exact J | with_reducible exact J.drew | with_reducible exact q_alloc J _ | with_reducible exact q_alloc J.drew _ | (exact by (repeat' (first | with_reducible exact Below.refl _ _ | with_reducible assumption | with_reducible refine q_alloc ?_ _ | with_reducible refine q_drew ?_ | with_reducible refine q_drewN _ ?_ | with_reducible refine q_setCell ?_ ?_ _ | (left; simp; done) | (right; simp; done) | (right; dsimp only; omega) | (left; dsimp only; omega)))))
          (first
            | (go_at_call 15; refine (ids_any pa pn pc ps _ (ints_lower S8.out (by first | with_reducible exact J | with_reducible exact J.drew | with_reducible exact q_alloc J _ | with_reducible exact q_alloc J.drew _ | (exact by (repeat' (first | with_reducible exact Below.refl _ _ | with_reducible assumption | with_reducible refine q_alloc ?_ _ | with_reducible refine q_drew ?_ | with_reducible refine q_drewN _ ?_ | with_reducible refine q_setCell ?_ ?_ _ | (left; simp; done) | (right; simp; done) | (right; dsimp only; omega) | (left; dsimp only; omega)))))) HIN.out HUB.out (by have := HPN.out; omega)).mono ?_; rintro e w9 ⟨ja, jc, rfl, ks, hb9⟩; have KS := Lib.hid ks; have J9 : Below W8.heap.size W8 w9 := q_step (by first | with_reducible exact J | with_reducible exact J.drew | with_reducible exact q_alloc J _ | with_reducible exact q_alloc J.drew _ | (exact by (repeat' (first | with_reducible exact Below.refl _ _ | with_reducible assumption | with_reducible refine q_alloc ?_ _ | with_reducible refine q_drew ?_ | with_reducible refine q_drewN _ ?_ | with_reducible refine q_setCell ?_ ?_ _ | (left; simp; done) | (right; simp; done) | (right; dsimp only; omega) | (left; dsimp only; omega))))) hb9; (try (have HD9 := Lib.hid (show Blk w9 W8.heap.size [i6 0, u3 0, .bool false, i6 0, i6 0, .bool false, i6 0, i6 0, i6 0] by first | with_reducible exact Blk.below (za0) hb9 | with_reducible exact Blk.below (za0a) hb9 | with_reducible exact Blk.below (za0.drew) hb9 | with_reducible exact Blk.below (za0a.drew) hb9 | with_reducible exact Blk.below (za0.drew.alloc _) hb9 | with_reducible exact Blk.below ((za0.drew.alloc _).drew) hb9))); clear ks; have zs9 := J9.size; replace J := J9; clear J9 hb9)
            | (go_at_call 14; refine (rfind_any _ gs ja pn jc ps _ _ _ _ (I8.out.below (by first | with_reducible exact J | with_reducible exact J.drew | with_reducible exact q_alloc J _ | with_reducible exact q_alloc J.drew _ | (exact by (repeat' (first | with_reducible exact Below.refl _ _ | with_reducible assumption | with_reducible refine q_alloc ?_ _ | with_reducible refine q_drew ?_ | with_reducible refine q_drewN _ ?_ | with_reducible refine q_setCell ?_ ?_ _ | (left; simp; done) | (right; simp; done) | (right; dsimp only; omega) | (left; dsimp only; omega)))))) (by have := HL.out; omega) (ints_lower KS.out (by first | with_reducible exact Below.refl _ _ | (exact by (repeat' (first | with_reducible exact Below.refl _ _ | with_reducible assumption | with_reducible refine q_alloc ?_ _ | with_reducible refine q_drew ?_ | with_reducible refine q_drewN _ ?_ | with_reducible refine q_setCell ?_ ?_ _ | (left; simp; done) | (right; simp; done) | (right; dsimp only; omega) | (left; dsimp only; omega)))))) HIN.out (by have := HPN.out; omega)).mono ?_; rintro e w10 ⟨y, o', rfl, hfy, hb10⟩; obtain ⟨rfl, rfl⟩ := finds_end HFX.out hfy; clear hfy; have J10 : Below W8.heap.size W8 w10 := q_step (by first | with_reducible exact J | with_reducible exact J.drew | with_reducible exact q_alloc J _ | with_reducible exact q_alloc J.drew _ | (exact by (repeat' (first | with_reducible exact Below.refl _ _ | with_reducible assumption | with_reducible refine q_alloc ?_ _ | with_reducible refine q_drew ?_ | with_reducible refine q_drewN _ ?_ | with_reducible refine q_setCell ?_ ?_ _ | (left; simp; done) | (right; simp; done) | (right; dsimp only; omega) | (left; dsimp only; omega))))) hb10; (try (have hd10 : Blk w10 w9.heap.size [i6 0, u3 0, .bool false, i6 0, i6 0, .bool false, i6 0, i6 0, i6 0] := (by first | with_reducible exact Blk.below (za0) hb10 | with_reducible exact Blk.below (za0a) hb10 | with_reducible exact Blk.below (za0.drew) hb10 | with_reducible exact Blk.below (za0a.drew) hb10 | with_reducible exact Blk.below (za0.drew.alloc _) hb10 | with_reducible exact Blk.below ((za0.drew.alloc _).drew) hb10); have dz := hd10.lt; have dc0 := hd10.cell 0 rfl; have df0 := hd10.froz 0 rfl; have dc1 := hd10.cell 1 rfl; have df1 := hd10.froz 1 rfl; have dc2 := hd10.cell 2 rfl; have df2 := hd10.froz 2 rfl; have dc3 := hd10.cell 3 rfl; have df3 := hd10.froz 3 rfl; have dc4 := hd10.cell 4 rfl; have df4 := hd10.froz 4 rfl; have dc5 := hd10.cell 5 rfl; have df5 := hd10.froz 5 rfl; have dc6 := hd10.cell 6 rfl; have df6 := hd10.froz 6 rfl; have dc7 := hd10.cell 7 rfl; have df7 := hd10.froz 7 rfl; have dc8 := hd10.cell 8 rfl; have df8 := hd10.froz 8 rfl; have HD := Lib.hid hd10; clear hd10)); (try (have hd10 : Blk w10 W8.heap.size [i6 0, u3 0, .bool false, i6 0, i6 0, .bool false, i6 0, i6 0, i6 0] := (by first | with_reducible exact HD9.out.below hb10 | with_reducible exact HD9.out.drew.below hb10); have dz := hd10.lt; have dc0 := hd10.cell 0 rfl; have df0 := hd10.froz 0 rfl; have dc1 := hd10.cell 1 rfl; have df1 := hd10.froz 1 rfl; have dc2 := hd10.cell 2 rfl; have df2 := hd10.froz 2 rfl; have dc3 := hd10.cell 3 rfl; have df3 := hd10.froz 3 rfl; have dc4 := hd10.cell 4 rfl; have df4 := hd10.froz 4 rfl; have dc5 := hd10.cell 5 rfl; have df5 := hd10.froz 5 rfl; have dc6 := hd10.cell 6 rfl; have df6 := hd10.froz 6 rfl; have dc7 := hd10.cell 7 rfl; have df7 := hd10.froz 7 rfl; have dc8 := hd10.cell 8 rfl; have df8 := hd10.froz 8 rfl; have HD := Lib.hid hd10; clear hd10)); replace J := J10; clear J10 hb10))
        all_goals (go_wp2_with fail; go_meet; first | exact ⟨_, rfl, rfl, (((((((((HD.out.set 0 _ (by simp) rfl).set 1 _ (by simp) rfl).set 2 _ (by simp) rfl).set 3 _ (by simp) rfl).set 4 _ (by simp) rfl).set 5 _ (by simp) rfl).set 6 _ (by simp) rfl).set 7 _ (by simp) rfl).set 8 _ (by simp) rfl), by (repeat' (first | with_reducible exact Below.refl _ _ | with_reducible assumption | with_reducible refine q_alloc ?_ _ | with_reducible refine q_drew ?_ | with_reducible refine q_drewN _ ?_ | with_reducible refine q_setCell ?_ ?_ _ | (left; simp; done) | (right; simp; done) | (right; dsimp only; omega) | (left; dsimp only; omega)))⟩ | exact ⟨_, rfl, rfl, Blk.new rfl, by (repeat' (first | with_reducible exact Below.refl _ _ | with_reducible assumption | with_reducible refine q_alloc ?_ _ | with_reducible refine q_drew ?_ | with_reducible refine q_drewN _ ?_ | with_reducible refine q_setCell ?_ ?_ _ | (left; simp; done) | (right; simp; done) | (right; dsimp only; omega) | (left; dsimp only; omega)))⟩)
      case rest =>
        obtain ⟨d, rfl, rfl, bd, J2⟩ := hcut
        obtain ⟨W9, rfl⟩ : ∃ W : World, W = wc := ⟨_, rfl⟩
        have hq9 := q_step hq18 J2
        have c9 := C8.out.below J2
        have u0 := stick (bd.cell 0 rfl)
        have v0 := stick (c9.cell 0 rfl)
        have u1 := stick (bd.cell 1 rfl)
        have v1 := stick (c9.cell 1 rfl)
        have u2 := stick (bd.cell 2 rfl)
        have v2 := stick (c9.cell 2 rfl)
        have u3 := stick (bd.cell 3 rfl)
        have v3 := stick (c9.cell 3 rfl)
        have u4 := stick (bd.cell 4 rfl)
        have v4 := stick (c9.cell 4 rfl)
        have u5 := stick (bd.cell 5 rfl)
        have v5 := stick (c9.cell 5 rfl)
        have u6 := stick (bd.cell 6 rfl)
        have v6 := stick (c9.cell 6 rfl)
        have u7 := stick (bd.cell 7 rfl)
        have v7 := stick (c9.cell 7 rfl)
        have u8 := stick (bd.cell 8 rfl)
        have v8 := stick (c9.cell 8 rfl)
        have J : Below W9.heap.size W9 W9 := Below.refl _ _
        clear bd c9 t2 t3 t4
        go_upto_region 8 with fail
        go_region_held3 (fun w' => Below W9.heap.size W9 w')
          (first | with_reducible exact J | with_reducible exact J.drew | (exact by (repeat' (first | with_reducible exact Below.refl _ _ | with_reducible assumption | with_reducible refine q_alloc ?_ _ | with_reducible refine q_drew ?_ | with_reducible refine q_drewN _ ?_ | with_reducible refine q_setCell ?_ ?_ _ | (left; simp; done) | (right; simp; done) | (right; dsimp only; omega) | (left; dsimp only; omega)))))
          (first
            | (go_at_call 16; refine (of9 _ _ _ _ _ _ _ _ _ _).mono ?_; rintro e w10 ⟨rfl, hb10⟩; have J10 : Below W9.heap.size W9 w10 := q_step (by first | with_reducible exact J | with_reducible exact J.drew | (exact by (repeat' (first | with_reducible exact Below.refl _ _ | with_reducible assumption | with_reducible refine q_alloc ?_ _ | with_reducible refine q_drew ?_ | with_reducible refine q_drewN _ ?_ | with_reducible refine q_setCell ?_ ?_ _ | (left; simp; done) | (right; simp; done) | (right; dsimp only; omega) | (left; dsimp only; omega))))) hb10; replace J := J10; clear J10 hb10)
            | (go_at_call 11; refine (awake38 _).mono ?_; rintro e w11 ⟨rfl, hb11⟩; have J11 : Below W9.heap.size W9 w11 := q_step (by first | with_reducible exact J | with_reducible exact J.drew | (exact by (repeat' (first | with_reducible exact Below.refl _ _ | with_reducible assumption | with_reducible refine q_alloc ?_ _ | with_reducible refine q_drew ?_ | with_reducible refine q_drewN _ ?_ | with_reducible refine q_setCell ?_ ?_ _ | (left; simp; done) | (right; simp; done) | (right; dsimp only; omega) | (left; dsimp only; omega))))) hb11; replace J := J11; clear J11 hb11))
        all_goals (go_wp2_with fail; go_returns; exact ⟨by first | rfl | (simp; done), q_step hq9 (by (repeat' (first | with_reducible exact Below.refl _ _ | with_reducible assumption | with_reducible refine q_alloc ?_ _ | with_reducible refine q_drew ?_ | with_reducible refine q_drewN _ ?_ | with_reducible refine q_setCell ?_ ?_ _ | (left; simp; done) | (right; simp; done) | (right; dsimp only; omega) | (left; dsimp only; omega))))⟩)
end Go.Proofs.Ytmcndiljldbkcaa
