import Derived.Test.YtlofhbeifgaoeaaDoorRect23
namespace Go.Proofs.YtlofhbeifgaoeaaDoor
open Go Go.RowKit
set_option linter.unusedSimpArgs false
set_option linter.unusedVariables false
theorem norm_unique {x y r h a b c d a' b' c' d' : Int} (n : Norm x y r h a b c d) (n' : Norm x y r h a' b' c' d') : a = a' ∧ b = b' ∧ c = c' ∧ d = d' := by
  rcases n with ⟨g, rfl, rfl, rfl, rfl⟩ | ⟨g, rfl, rfl, rfl, rfl⟩ <;> rcases n' with ⟨g', rfl, rfl, rfl, rfl⟩ | ⟨g', rfl, rfl, rfl, rfl⟩
  · exact ⟨rfl, rfl, rfl, rfl⟩
  · exact absurd g g'
  · exact absurd g' g
  · exact ⟨rfl, rfl, rfl, rfl⟩
theorem norm_zero0 : Norm 0 0 0 0 0 0 0 0 := okR_zero
theorem shift_is (x y r h a b c d dx dy a' b' c' d' : Int) (n : Norm x y r h a b c d) (hh : ((c = 0 ∨ dx < -2097152 ∨ 2097152 < dx ∨ dy < -2097152 ∨ 2097152 < dy) ∧ a' = 0 ∧ b' = 0 ∧ c' = 0 ∧ d' = 0 ∨ ¬ (c = 0 ∨ dx < -2097152 ∨ 2097152 < dx ∨ dy < -2097152 ∨ 2097152 < dy) ∧ Norm (a + dx) (b + dy) c d a' b' c' d')) :
    ∀ W : World, RowAt 0 noneCells W → Calls Tryd.prog 27 #[rectV x y r h, i6 dx, i6 dy] W fun e w' => e = .returned (rectV a' b' c' d') ∧ Below W.heap.size W w' := by
  intro W hs
  obtain ⟨a2, b2, c2, d2, h2, hc⟩ := shift_any x y r h a b c d dx dy W hs n
  have he : a2 = a' ∧ b2 = b' ∧ c2 = c' ∧ d2 = d' := by
    rcases hh with ⟨g, rfl, rfl, rfl, rfl⟩ | ⟨g, nn⟩ <;> rcases h2 with ⟨g', rfl, rfl, rfl, rfl⟩ | ⟨g', nn'⟩
    · exact ⟨rfl, rfl, rfl, rfl⟩
    · exact absurd g g'
    · exact absurd g' g
    · exact norm_unique nn' nn
  obtain ⟨rfl, rfl, rfl, rfl⟩ := he
  exact hc
theorem lthere_any (x y r h u v ix iy : Int) (w : World) (hs : RowAt 0 noneCells w) (bu : -32768 ≤ u ∧ u ≤ 32767) (bv : -32768 ≤ v ∧ v ≤ 32767) (bx : -2147483648 ≤ ix ∧ ix ≤ 2147483647) (by_ : -2147483648 ≤ iy ∧ iy ≤ 2147483647) :
    Calls Tryd.prog 7 #[rectV x y r h, .int .i16 u, .int .i16 v, .int .i32 ix, .int .i32 iy] w fun e w' => e = .returned (.bool true) ∧ Below w.heap.size w w' := by
  by_cases g : Good x y r h
  · have n : Norm x y r h x y r h := Or.inl ⟨g, rfl, rfl, rfl, rfl⟩
    have gb := g.bounds
    by_cases g2 : Good (x + u) (y + v) r h
    · have n2 : Norm (x + u) (y + v) r h (x + u) (y + v) r h := Or.inl ⟨g2, rfl, rfl, rfl, rfl⟩
      refine there_some x y r h (x + u) (y + v) r h u v ix iy w hs bu bv bx by_ (shift_is _ _ _ _ _ _ _ _ _ _ _ _ _ _ n (Or.inr ⟨by omega, n2⟩)) n n2 (by omega) ⟨rfl, rfl, rfl, rfl⟩ ?_
      refine shift_is _ _ _ _ _ _ _ _ _ _ _ _ _ _ n2 (Or.inr ⟨by omega, ?_⟩)
      rw [show x + u + -u = x by omega, show y + v + -v = y by omega]
      exact n
    · exact there_none x y r h 0 0 0 0 u v ix iy w hs bu bv bx by_ (shift_is _ _ _ _ _ _ _ _ _ _ _ _ _ _ n (Or.inr ⟨by omega, Or.inr ⟨g2, rfl, rfl, rfl, rfl⟩⟩)) norm_zero0 rfl
  · exact there_none x y r h 0 0 0 0 u v ix iy w hs bu bv bx by_ (shift_is _ _ _ _ _ _ _ _ _ _ _ _ _ _ (norm_bad g) (Or.inl ⟨Or.inl rfl, rfl, rfl, rfl, rfl⟩)) norm_zero0 rfl

theorem u_step {w w1 w2 : World} {x y r h : Int} (hh : Below w.heap.size w w1 ∧ w1.cell? ⟨w.heap.size, 0, none⟩ = some (i6 x) ∧ w1.cell? ⟨w.heap.size, 1, none⟩ = some (i6 y) ∧ w1.cell? ⟨w.heap.size, 2, none⟩ = some (i6 r) ∧ w1.cell? ⟨w.heap.size, 3, none⟩ = some (i6 h)) (hb : Below w1.heap.size w1 w2) : Below w.heap.size w w2 ∧ w2.cell? ⟨w.heap.size, 0, none⟩ = some (i6 x) ∧ w2.cell? ⟨w.heap.size, 1, none⟩ = some (i6 y) ∧ w2.cell? ⟨w.heap.size, 2, none⟩ = some (i6 r) ∧ w2.cell? ⟨w.heap.size, 3, none⟩ = some (i6 h) := by
  obtain ⟨h0, h1, h2, h3, h4⟩ := hh
  exact ⟨q_step h0 hb, cell_below hb h1, cell_below hb h2, cell_below hb h3, cell_below hb h4⟩

set_option maxRecDepth 100000 in
set_option maxHeartbeats 8000000 in
theorem moves_some (x y r h dx dy a b c d p q s t : Int) (bb off len cap : Nat) (rs : List R4) (w : World) (hs : RowAt 0 noneCells w) (hle : len ≤ 200)
    (hv : IsRects w (.slice (some ⟨bb, off, none⟩) len cap) rs) (hl : rs.length ≤ 100000 ∨ True) (hbx : rs.length ≤ 200 → boxR rs = (p, q, s, t))
    (s1 : ∀ W : World, RowAt 0 noneCells W → Calls Tryd.prog 27 #[rectV x y r h, i6 dx, i6 dy] W fun e w' => e = .returned (rectV a b c d) ∧ Below W.heap.size W w')
    (s2 : ∀ W : World, Calls Tryd.prog 28 #[rectV x y r h, i6 dx, i6 dy] W fun e w' => e = .returned (rectV a b c d) ∧ Below W.heap.size W w') (hrl : rs.length ≤ 200) :
    Calls Tryd.prog 6 #[.slice (some ⟨bb, off, none⟩) len cap, rectV x y r h, i6 dx, i6 dy] w fun e w' => e = .returned (.bool true) ∧ Below w.heap.size w w' := by
  have HS := Lib.hid hs
  have HV := Lib.hid hv
  have hB : ∀ W : World, Below w.heap.size w W → Calls Tryd.prog 25 #[.slice (some ⟨bb, off, none⟩) len cap] W fun e w' => e = .returned (rectV p q s t) ∧ Below W.heap.size W w' := fun W hb => by
    have := box_any _ rs W (hs.below hb) (hv.below hb) (by omega)
    rwa [hbx hrl] at this
  have hRB : ∀ W : World, Below w.heap.size w W → Calls Tryd.prog 26 #[.slice (some ⟨bb, off, none⟩) len cap] W fun e w' => e = .returned (rectV p q s t) ∧ Below W.heap.size W w' := fun W hb => by
    have := rbox_any _ rs W (hv.below hb) (by omega)
    rwa [hbx hrl] at this
  have HBX := Lib.hid hB
  have HRB := Lib.hid hRB
  have HS1 := Lib.hid s1
  have HS2 := Lib.hid s2
  have hle2 : ¬ (200 : Int) < (len : Int) := by omega
  have hr1 := fun w => rect_eqb (show eqR p q s t p q s t = true from decide_eq_true ⟨rfl, rfl, rfl, rfl⟩) w
  have hr2 := fun w => rect_eqb (show eqR a b c d a b c d = true from decide_eq_true ⟨rfl, rfl, rfl, rfl⟩) w
  have G1 := Lib.hid (rfl : (1 : Nat) = 1)
  have G2 := Lib.hid (rfl : (2 : Nat) = 2)
  have G3 := Lib.hid (rfl : (3 : Nat) = 3)
  have G4 := Lib.hid (rfl : (4 : Nat) = 4)
  clear hs hv hl hbx hB hRB s1 s2 hrl
  go_enter Tryd.func6, Tryd.ntmps6
  go_wp2_with fail
  refine calls_world (fun W => Below w.heap.size w W ∧ Blk W (w.heap.size) [i6 x, i6 y, i6 r, i6 h]) ⟨by (repeat' (first | with_reducible exact Below.refl _ _ | with_reducible assumption | with_reducible refine q_alloc ?_ _ | with_reducible refine q_drew ?_ | with_reducible refine q_drewN _ ?_ | with_reducible refine q_setCell ?_ ?_ _ | (left; simp; done) | (right; simp; done) | (right; dsimp only; omega) | (left; dsimp only; omega))), Blk.new rfl⟩ ?_
  intro W1 ⟨hq1, b1_0⟩
  refine (awake12 _ (HS.out.below hq1)).mono ?_
  rintro e w2 ⟨rfl, hb⟩
  have hq2 : Below w.heap.size w w2 := q_step hq1 hb
  have b2_0 := b1_0.below hb
  clear hb b1_0 hq1
  have b2_0c0 := b2_0.cell 0 rfl
  have b2_0f0 := b2_0.froz 0 rfl
  have b2_0c1 := b2_0.cell 1 rfl
  have b2_0f1 := b2_0.froz 1 rfl
  have b2_0c2 := b2_0.cell 2 rfl
  have b2_0f2 := b2_0.froz 2 rfl
  have b2_0c3 := b2_0.cell 3 rfl
  have b2_0f3 := b2_0.froz 3 rfl
  have b2_0z := b2_0.lt
  go_upto_region 5 with fail
  have J : Below w.heap.size w w2 ∧ w2.cell? ⟨w.heap.size, 0, none⟩ = some (i6 x) ∧ w2.cell? ⟨w.heap.size, 1, none⟩ = some (i6 y) ∧ w2.cell? ⟨w.heap.size, 2, none⟩ = some (i6 r) ∧ w2.cell? ⟨w.heap.size, 3, none⟩ = some (i6 h) := ⟨hq2, b2_0c0, b2_0c1, b2_0c2, b2_0c3⟩
  clear hq2 b2_0c0 b2_0f0 b2_0c1 b2_0f1 b2_0c2 b2_0f2 b2_0c3 b2_0f3 b2_0z b2_0
  go_cut [8] from 9 (fun sv wx => sv = .bool true ∧ Below w.heap.size w wx)
  case first =>
    go_region_held3 (fun w' => Below w.heap.size w w' ∧ w'.cell? ⟨w.heap.size, 0, none⟩ = some (i6 x) ∧ w'.cell? ⟨w.heap.size, 1, none⟩ = some (i6 y) ∧ w'.cell? ⟨w.heap.size, 2, none⟩ = some (i6 r) ∧ w'.cell? ⟨w.heap.size, 3, none⟩ = some (i6 h))
      (first | exact J | exact ⟨J.1.drew, J.2⟩)
      (first | (go_at_call 25; have g1 := G1; refine (HBX.out _ ?_).mono ?_; (first | exact J.1 | exact J.1.drew); rintro e w5 ⟨rfl, hb⟩; (first | replace J := u_step J hb | replace J := u_step J (below_drew hb)); clear hb g1 G1) | (go_at_call 26; have g2 := G2; refine (HRB.out _ ?_).mono ?_; (first | exact J.1 | exact J.1.drew); rintro e w5 ⟨rfl, hb⟩; (first | replace J := u_step J hb | replace J := u_step J (below_drew hb)); clear hb g2 G2) | (go_at_call 27; have g3 := G3; refine (HS1.out _ ?_).mono ?_; (first | exact HS.out.below J.1 | exact (HS.out.below J.1).drew); rintro e w5 ⟨rfl, hb⟩; (first | replace J := u_step J hb | replace J := u_step J (below_drew hb)); clear hb g3 G3) | (go_at_call 28; have g4 := G4; refine (HS2.out _).mono ?_; rintro e w5 ⟨rfl, hb⟩; (first | replace J := u_step J hb | replace J := u_step J (below_drew hb)); clear hb g4 G4))
    all_goals (go_wp2_with fail; go_meet; exact ⟨by first | rfl | simp, J.1⟩)
  case rest =>
    obtain ⟨rfl, hq⟩ := hcut
    go_wp2_with fail
    go_returns
    exact ⟨rfl, hq⟩

set_option maxRecDepth 100000 in
set_option maxHeartbeats 8000000 in
theorem moves_none (x y r h dx dy a b c d p q s t : Int) (aa : Option Addr) (cap : Nat) (rs : List R4) (w : World) (hs : RowAt 0 noneCells w) 
    (hv : IsRects w (.slice aa 0 cap) rs) (hl : rs.length ≤ 100000 ∨ True) (hbx : rs.length ≤ 200 → boxR rs = (p, q, s, t))
    (s1 : ∀ W : World, RowAt 0 noneCells W → Calls Tryd.prog 27 #[rectV x y r h, i6 dx, i6 dy] W fun e w' => e = .returned (rectV a b c d) ∧ Below W.heap.size W w')
    (s2 : ∀ W : World, Calls Tryd.prog 28 #[rectV x y r h, i6 dx, i6 dy] W fun e w' => e = .returned (rectV a b c d) ∧ Below W.heap.size W w') (hrl : rs.length ≤ 200) :
    Calls Tryd.prog 6 #[.slice aa 0 cap, rectV x y r h, i6 dx, i6 dy] w fun e w' => e = .returned (.bool true) ∧ Below w.heap.size w w' := by
  have HS := Lib.hid hs
  have HV := Lib.hid hv
  have hB : ∀ W : World, Below w.heap.size w W → Calls Tryd.prog 25 #[.slice aa 0 cap] W fun e w' => e = .returned (rectV p q s t) ∧ Below W.heap.size W w' := fun W hb => by
    have := box_any _ rs W (hs.below hb) (hv.below hb) (by omega)
    rwa [hbx hrl] at this
  have hRB : ∀ W : World, Below w.heap.size w W → Calls Tryd.prog 26 #[.slice aa 0 cap] W fun e w' => e = .returned (rectV p q s t) ∧ Below W.heap.size W w' := fun W hb => by
    have := rbox_any _ rs W (hv.below hb) (by omega)
    rwa [hbx hrl] at this
  have HBX := Lib.hid hB
  have HRB := Lib.hid hRB
  have HS1 := Lib.hid s1
  have HS2 := Lib.hid s2
  skip
  have hr1 := fun w => rect_eqb (show eqR p q s t p q s t = true from decide_eq_true ⟨rfl, rfl, rfl, rfl⟩) w
  have hr2 := fun w => rect_eqb (show eqR a b c d a b c d = true from decide_eq_true ⟨rfl, rfl, rfl, rfl⟩) w
  have G1 := Lib.hid (rfl : (1 : Nat) = 1)
  have G2 := Lib.hid (rfl : (2 : Nat) = 2)
  have G3 := Lib.hid (rfl : (3 : Nat) = 3)
  have G4 := Lib.hid (rfl : (4 : Nat) = 4)
  clear hs hv hl hbx hB hRB s1 s2 hrl
  go_enter Tryd.func6, Tryd.ntmps6
  go_wp2_with fail
  refine calls_world (fun W => Below w.heap.size w W ∧ Blk W (w.heap.size) [i6 x, i6 y, i6 r, i6 h]) ⟨by (repeat' (first | with_reducible exact Below.refl _ _ | with_reducible assumption | with_reducible refine q_alloc ?_ _ | with_reducible refine q_drew ?_ | with_reducible refine q_drewN _ ?_ | with_reducible refine q_setCell ?_ ?_ _ | (left; simp; done) | (right; simp; done) | (right; dsimp only; omega) | (left; dsimp only; omega))), Blk.new rfl⟩ ?_
  intro W1 ⟨hq1, b1_0⟩
  refine (awake12 _ (HS.out.below hq1)).mono ?_
  rintro e w2 ⟨rfl, hb⟩
  have hq2 : Below w.heap.size w w2 := q_step hq1 hb
  have b2_0 := b1_0.below hb
  clear hb b1_0 hq1
  have b2_0c0 := b2_0.cell 0 rfl
  have b2_0f0 := b2_0.froz 0 rfl
  have b2_0c1 := b2_0.cell 1 rfl
  have b2_0f1 := b2_0.froz 1 rfl
  have b2_0c2 := b2_0.cell 2 rfl
  have b2_0f2 := b2_0.froz 2 rfl
  have b2_0c3 := b2_0.cell 3 rfl
  have b2_0f3 := b2_0.froz 3 rfl
  have b2_0z := b2_0.lt
  go_upto_region 5 with fail
  have J : Below w.heap.size w w2 ∧ w2.cell? ⟨w.heap.size, 0, none⟩ = some (i6 x) ∧ w2.cell? ⟨w.heap.size, 1, none⟩ = some (i6 y) ∧ w2.cell? ⟨w.heap.size, 2, none⟩ = some (i6 r) ∧ w2.cell? ⟨w.heap.size, 3, none⟩ = some (i6 h) := ⟨hq2, b2_0c0, b2_0c1, b2_0c2, b2_0c3⟩
  clear hq2 b2_0c0 b2_0f0 b2_0c1 b2_0f1 b2_0c2 b2_0f2 b2_0c3 b2_0f3 b2_0z b2_0
  go_cut [8] from 9 (fun sv wx => sv = .bool true ∧ Below w.heap.size w wx)
  case first =>
    go_region_held3 (fun w' => Below w.heap.size w w' ∧ w'.cell? ⟨w.heap.size, 0, none⟩ = some (i6 x) ∧ w'.cell? ⟨w.heap.size, 1, none⟩ = some (i6 y) ∧ w'.cell? ⟨w.heap.size, 2, none⟩ = some (i6 r) ∧ w'.cell? ⟨w.heap.size, 3, none⟩ = some (i6 h))
      (first | exact J | exact ⟨J.1.drew, J.2⟩)
      (first | (go_at_call 25; have g1 := G1; refine (HBX.out _ ?_).mono ?_; (first | exact J.1 | exact J.1.drew); rintro e w5 ⟨rfl, hb⟩; (first | replace J := u_step J hb | replace J := u_step J (below_drew hb)); clear hb g1 G1) | (go_at_call 26; have g2 := G2; refine (HRB.out _ ?_).mono ?_; (first | exact J.1 | exact J.1.drew); rintro e w5 ⟨rfl, hb⟩; (first | replace J := u_step J hb | replace J := u_step J (below_drew hb)); clear hb g2 G2) | (go_at_call 27; have g3 := G3; refine (HS1.out _ ?_).mono ?_; (first | exact HS.out.below J.1 | exact (HS.out.below J.1).drew); rintro e w5 ⟨rfl, hb⟩; (first | replace J := u_step J hb | replace J := u_step J (below_drew hb)); clear hb g3 G3) | (go_at_call 28; have g4 := G4; refine (HS2.out _).mono ?_; rintro e w5 ⟨rfl, hb⟩; (first | replace J := u_step J hb | replace J := u_step J (below_drew hb)); clear hb g4 G4))
    all_goals (go_wp2_with fail; go_meet; exact ⟨by first | rfl | simp, J.1⟩)
  case rest =>
    obtain ⟨rfl, hq⟩ := hcut
    go_wp2_with fail
    go_returns
    exact ⟨rfl, hq⟩

set_option maxRecDepth 100000 in
set_option maxHeartbeats 8000000 in
theorem moves_long (x y r h dx dy a b c d p q s t : Int) (aa : Option Addr) (len cap : Nat) (rs : List R4) (w : World) (hs : RowAt 0 noneCells w) (hle : ¬ len ≤ 200) (hmx : len ≤ maxLen)
    (hv : IsRects w (.slice aa len cap) rs) (hl : rs.length ≤ 100000 ∨ True) (hbx : rs.length ≤ 200 → boxR rs = (p, q, s, t))
    (s1 : ∀ W : World, RowAt 0 noneCells W → Calls Tryd.prog 27 #[rectV x y r h, i6 dx, i6 dy] W fun e w' => e = .returned (rectV a b c d) ∧ Below W.heap.size W w')
    (s2 : ∀ W : World, Calls Tryd.prog 28 #[rectV x y r h, i6 dx, i6 dy] W fun e w' => e = .returned (rectV a b c d) ∧ Below W.heap.size W w')  :
    Calls Tryd.prog 6 #[.slice aa len cap, rectV x y r h, i6 dx, i6 dy] w fun e w' => e = .returned (.bool true) ∧ Below w.heap.size w w' := by
  have HS := Lib.hid hs
  have hgt : (200 : Int) < (len : Int) := by omega
  have HV := Lib.hid hv
  clear hv hl hbx s1 s2
  go_enter Tryd.func6, Tryd.ntmps6
  go_wp2_with fail
  refine calls_world (fun W => Below w.heap.size w W ∧ Blk W (w.heap.size) [i6 x, i6 y, i6 r, i6 h]) ⟨by (repeat' (first | with_reducible exact Below.refl _ _ | with_reducible assumption | with_reducible refine q_alloc ?_ _ | with_reducible refine q_drew ?_ | with_reducible refine q_drewN _ ?_ | with_reducible refine q_setCell ?_ ?_ _ | (left; simp; done) | (right; simp; done) | (right; dsimp only; omega) | (left; dsimp only; omega))), Blk.new rfl⟩ ?_
  intro W1 ⟨hq1, b1_0⟩
  refine (awake12 _ (HS.out.below hq1)).mono ?_
  rintro e w2 ⟨rfl, hb⟩
  have hq2 : Below w.heap.size w w2 := q_step hq1 hb
  have b2_0 := b1_0.below hb
  clear hb b1_0 hq1
  have b2_0c0 := b2_0.cell 0 rfl
  have b2_0f0 := b2_0.froz 0 rfl
  have b2_0c1 := b2_0.cell 1 rfl
  have b2_0f1 := b2_0.froz 1 rfl
  have b2_0c2 := b2_0.cell 2 rfl
  have b2_0f2 := b2_0.froz 2 rfl
  have b2_0c3 := b2_0.cell 3 rfl
  have b2_0f3 := b2_0.froz 3 rfl
  have b2_0z := b2_0.lt
  go_wp2_with fail
  go_returns
  exact ⟨rfl, hq2⟩

theorem lmoves_any (v : Value) (rs : List R4) (x y r h dx dy : Int) (w : World) (hs : RowAt 0 noneCells w) (hv : IsRects w v rs) :
    Calls Tryd.prog 6 #[v, rectV x y r h, i6 dx, i6 dy] w fun e w' => e = .returned (.bool true) ∧ Below w.heap.size w w' := by
  obtain ⟨a, b, c, d, n⟩ := norm_ex x y r h
  obtain ⟨a', b', c', d', hh, _⟩ := shift_any x y r h a b c d dx dy w hs n
  have s1 := shift_is x y r h a b c d dx dy a' b' c' d' n hh
  have s2 := fun W => rshift_any x y r h a b c d dx dy a' b' c' d' W n hh
  obtain ⟨p, q, s, t, hbx⟩ : ∃ p q s t, boxR rs = (p, q, s, t) := ⟨_, _, _, _, rfl⟩
  rcases hv with ⟨aa, cap, rfl, rfl⟩ | ⟨bb, off, cap, rfl, h1, h2, h3, h4, h5⟩
  · exact moves_none x y r h dx dy a' b' c' d' p q s t aa cap [] w hs (Or.inl ⟨_, _, rfl, rfl⟩) (Or.inr trivial) (fun _ => hbx) s1 s2 (by simp)
  · by_cases hle : rs.length ≤ 200
    · exact moves_some x y r h dx dy a' b' c' d' p q s t bb off rs.length cap rs w hs hle (Or.inr ⟨bb, off, cap, rfl, h1, h2, h3, h4, h5⟩) (Or.inr trivial) (fun _ => hbx) s1 s2 hle
    · exact moves_long x y r h dx dy a' b' c' d' p q s t _ rs.length cap rs w hs hle (by omega) (Or.inr ⟨bb, off, cap, rfl, h1, h2, h3, h4, h5⟩) (Or.inr trivial) (fun _ => hbx) s1 s2
end Go.Proofs.YtlofhbeifgaoeaaDoor
