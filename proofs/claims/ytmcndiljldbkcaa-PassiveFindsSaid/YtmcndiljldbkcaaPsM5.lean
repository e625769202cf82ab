/- Layer 38: Ps43, Ps44, Ps45, Ps46, Ps47, Ps48, Ps49 put together. -/
import Derived.Test.YtmcndiljldbkcaaPsM4
import Derived.Test.YtmcndiljldbkcaaPs11
import Derived.Test.YtmcndiljldbkcaaActs
import Derived.Test.YtmcndiljldbkcaaActs2
import Derived.Deep.CutRange
import Derived.Test.YtmcndiljldbkcaaPs22
import Derived.Test.YtmcndiljldbkcaaPs13
/- Layer 38: an act of no kind; rows apart from a block. -/
namespace Go.Proofs.Ytmcndiljldbkcaa
open Go Go.RowKit
set_option linter.unusedSimpArgs false
set_option linter.unusedVariables false
/-- The row lies not in block c. -/
def NotIn (c : Nat) (v : Value) : Prop := ∀ (b o n m : Nat), v = .slice (some ⟨b, o, none⟩) n m → 0 < n → b ≠ c
theorem notIn_old {w : World} {v : Value} {gs : List G} {c : Nat} (h : IsG w v gs) (hc : w.heap.size ≤ c) : NotIn c v := by
  obtain ⟨A, cap, rfl, hl⟩ := h
  rintro b o n m e h0
  injection e with e1 e2 e3
  obtain ⟨b', off, e4, h1, _⟩ := hl (by omega)
  rw [e1] at e4
  injection e4 with e4
  injection e4 with e4
  omega
theorem notIn_far {v : Value} {B c : Nat} (h : FarG B v) (hc : c < B) : NotIn c v := fun b o n m e _ => by
  have := h b o n m e
  omega
/-- The row lies in no block below B. -/
def ApartG (B : Nat) (v : Value) : Prop := ∀ c, c < B → NotIn c v
theorem apart_far {v : Value} {B : Nat} (h : FarG B v) : ApartG B v := fun _ hc => notIn_far h hc
theorem apart_le {v : Value} {B B' : Nat} (h : ApartG B v) (hb : B' ≤ B) : ApartG B' v := fun c hc => h c (by omega)
/-- What a drop or a leave leaves lies apart. -/
theorem apart_left {w : World} {v : Value} {B : Nat} {p : G → Bool} {gs : List G} (hi : IsG w v (leftL p gs)) (h : 0 < gs.length → FarG B v) : ApartG B v := by
  intro c hc b o n m e h0
  obtain ⟨A, cap, rfl, _⟩ := hi
  injection e with e1 e2 e3
  have h1 := h (left_pos (p := p) (gs := gs) (by omega)) b o (leftL p gs).length cap (by rw [e1])
  omega
theorem isG_apart {w : World} {v : Value} {gs : List G} {c : Nat} (h : IsG w v gs) (hf : NotIn c v) (o : Nat) (u : Value) : IsG (w.setCell ⟨c, o, none⟩ u) v gs := by
  obtain ⟨A, cap, rfl, hl⟩ := h
  refine ⟨A, cap, rfl, fun h0 => ?_⟩
  obtain ⟨b', off, rfl, h1, h2⟩ := hl h0
  have h3 := hf b' off _ _ rfl h0
  exact ⟨b', off, rfl, by simpa [World.setCell] using h1, fun i x hi j v hj => set_far (h2 i x hi j v hj) (by intro e; injection e with e1; omega)⟩
set_option maxRecDepth 100000 in
set_option maxHeartbeats 16000000 in
theorem done_other (kd : Int) (k0 : kd ≠ 0) (k1 : kd ≠ 1) (k2 : kd ≠ 2) (g0 g1 : Int) (g2 : Bool) (g3 g4 : Int) (g5 : Bool) (g6 g7 g8 : Int) (ia : Option Addr) (il ic : Nat) (tv lv : Value) (gs : List G) (w : World) (ht : IsG w tv gs) (hv : IsG w lv gs) (hl : gs.length ≤ 256) (hu : UniqG gs) :
    Calls Try.prog 24 #[.agg #[tv], lv, .agg #[i6 kd, i6 g0, u3 g1, .bool g2, i6 g3, i6 g4, .bool g5, i6 g6, i6 g7, i6 g8, .slice ia il ic]] w fun e w' => ∃ v' m', e = .returned (.tuple #[.agg #[v'], m', .bool true]) ∧ IsG w' v' (gs) ∧ IsG w' m' (gs) ∧ (v' = tv ∨ ApartG w.heap.size v') ∧ (m' = lv ∨ ApartG w.heap.size m') ∧ Below w.heap.size w w' := by
  have HT := Lib.hid ht
  have HV := Lib.hid hv
  have HU := Lib.hid hu
  obtain ⟨A, cap, rfl, _⟩ := ht
  obtain ⟨B, bcap, rfl, _⟩ := hv
  clear hu
  obtain ⟨n, hn⟩ : ∃ n, gs.length = n := ⟨_, rfl⟩
  have HN := Lib.hid hn
  have hl1 := hl
  rw [hn] at HT HV hl ⊢
  clear hn
  have q0 : (kd == 0) = false := by simpa using k0
  have q1 : (kd == 1) = false := by simpa using k1
  have q2 : (kd == 2) = false := by simpa using k2
  clear k0 k1 k2
  go_enter Try.func24, Try.ntmps24
  go_wp2_with fail
  refine body_world (fun W => Below w.heap.size w W ∧ Blk W (w.heap.size + 1 + 1) [.slice A n cap]) ⟨by (repeat' (first | with_reducible exact Below.refl _ _ | with_reducible assumption | with_reducible refine q_alloc ?_ _ | with_reducible refine q_drew ?_ | with_reducible refine q_drewN _ ?_ | with_reducible refine q_setCell ?_ ?_ _ | (left; simp; done) | (right; simp; done) | (right; dsimp only; omega) | (left; dsimp only; omega))), by first | exact (blk_new2 rfl) | exact ((blk_new2 rfl).set 0 _ (by simp) rfl)⟩ ?_
  intro W9 ⟨hq9, b9⟩
  have d0 := b9.cell 0 rfl
  have HA := Lib.hid (HT.out.below hq9)
  have HB := Lib.hid (HV.out.below hq9)
  exact bodyPost_ret (v := .tuple #[.agg #[.slice A n cap], .slice B n bcap, .bool true]) (by simp [results, Try.results24, go_sem, d0]) rfl ⟨_, _, rfl, HA.out, HB.out, Or.inl rfl, Or.inl rfl, hq9⟩
end Go.Proofs.Ytmcndiljldbkcaa
/- Layer 38: an act that adds. -/
namespace Go.Proofs.Ytmcndiljldbkcaa
open Go Go.RowKit
set_option linter.unusedSimpArgs false
set_option linter.unusedVariables false
set_option maxRecDepth 100000 in
set_option maxHeartbeats 16000000 in
theorem done_add (g0 g1 : Int) (g2 : Bool) (g3 g4 : Int) (g5 : Bool) (g6 g7 g8 : Int) (ia : Option Addr) (il ic : Nat) (tv lv : Value) (gs : List G) (w : World) (ht : IsG w tv gs) (hv : IsG w lv gs) (hl : gs.length ≤ 256) (hu : UniqG gs) :
    Calls Try.prog 24 #[.agg #[tv], lv, .agg #[i6 0, i6 g0, u3 g1, .bool g2, i6 g3, i6 g4, .bool g5, i6 g6, i6 g7, i6 g8, .slice ia il ic]] w fun e w' => ∃ v' m', e = .returned (.tuple #[.agg #[v'], m', .bool true]) ∧ IsG w' v' (addL ⟨g0, g1, g2, g3, g4, g5, g6, g7, g8⟩ gs) ∧ IsG w' m' (addL ⟨g0, g1, g2, g3, g4, g5, g6, g7, g8⟩ gs) ∧ (v' = tv ∨ ApartG w.heap.size v') ∧ (m' = lv ∨ ApartG w.heap.size m') ∧ Below w.heap.size w w' := by
  have HT := Lib.hid ht
  have HV := Lib.hid hv
  have HU := Lib.hid hu
  obtain ⟨A, cap, rfl, _⟩ := ht
  obtain ⟨B, bcap, rfl, _⟩ := hv
  clear hu
  obtain ⟨n, hn⟩ : ∃ n, gs.length = n := ⟨_, rfl⟩
  have HN := Lib.hid hn
  have hl1 := hl
  rw [hn] at HT HV hl ⊢
  clear hn
  go_enter Try.func24, Try.ntmps24
  go_wp2_with fail
  refine calls_world (fun W => Below w.heap.size w W ∧ Blk W (w.heap.size + 1) [i6 0, i6 g0, u3 g1, .bool g2, i6 g3, i6 g4, .bool g5, i6 g6, i6 g7, i6 g8, .slice ia il ic] ∧ Blk W (w.heap.size + 1 + 1) [.slice none 0 0]) ⟨by (repeat' (first | with_reducible exact Below.refl _ _ | with_reducible assumption | with_reducible refine q_alloc ?_ _ | with_reducible refine q_drew ?_ | with_reducible refine q_drewN _ ?_ | with_reducible refine q_setCell ?_ ?_ _ | (left; simp; done) | (right; simp; done) | (right; dsimp only; omega) | (left; dsimp only; omega))), (blk_new1 rfl).alloc _, blk_new2 rfl⟩ ?_
  intro W1 ⟨hq1, b1, b2⟩
  refine (add_i ⟨g0, g1, g2, g3, g4, g5, g6, g7, g8⟩ _ gs W1 (HT.out.below hq1) hl1).mono ?_
  rintro e w2 ⟨v2, rfl, hi, hf, hb⟩
  have hq2 := q_step hq1 hb
  have c1 := b1.below hb
  have c2 := b2.below hb
  have hsz : w.heap.size ≤ W1.heap.size := hq1.size
  have HF : Hid (v2 = .slice A n cap ∨ ApartG w.heap.size v2) := Lib.hid (by
    rcases hf with h | h
    · exact Or.inl h.1
    · exact Or.inr (apart_le (apart_far h) hsz))
  have HNI : Hid (NotIn (w.heap.size + 1 + 1) v2) := Lib.hid (by
    rcases hf with h | h
    · rw [h.1]; exact notIn_old HT.out (by omega)
    · exact notIn_far h b2.lt)
  have HI := Lib.hid hi
  obtain ⟨A2, cap2, rfl, _⟩ := hi
  obtain ⟨m2, hm2⟩ : ∃ m2, (addL ⟨g0, g1, g2, g3, g4, g5, g6, g7, g8⟩ gs).length = m2 := ⟨_, rfl⟩
  rw [hm2] at HI HF HNI ⊢
  clear hf hb hq1 b1 b2 hm2
  have z1 := c1.lt
  have y1 := c1.cell 1 rfl
  have y2 := c1.cell 2 rfl
  have y3 := c1.cell 3 rfl
  have y4 := c1.cell 4 rfl
  have y5 := c1.cell 5 rfl
  have y6 := c1.cell 6 rfl
  have y7 := c1.cell 7 rfl
  have y8 := c1.cell 8 rfl
  have y9 := c1.cell 9 rfl
  go_wp2_with fail
  refine calls_world (fun W => Below w2.heap.size w2 W ∧ Blk W w2.heap.size [.slice A2 m2 cap2]) ⟨by (repeat' (first | with_reducible exact Below.refl _ _ | with_reducible assumption | with_reducible refine q_alloc ?_ _ | with_reducible refine q_drew ?_ | with_reducible refine q_drewN _ ?_ | with_reducible refine q_setCell ?_ ?_ _ | (left; simp; done) | (right; simp; done) | (right; dsimp only; omega) | (left; dsimp only; omega))), Blk.new rfl⟩ ?_
  intro W3 ⟨hq3, b3⟩
  clear y1 y2 y3 y4 y5 y6 y7 y8 y9
  refine (of9 g0 g1 g2 g3 g4 g5 g6 g7 g8 W3).mono ?_
  rintro e w4 ⟨rfl, hb4⟩
  have hq4 := q_step hq3 hb4
  have hq44 := q_step hq2 hq4
  have b4 := b3.below hb4
  clear hq3 hb4 b3
  go_wp2_with fail
  refine calls_world (fun W => Below w4.heap.size w4 W) (by (repeat' (first | with_reducible exact Below.refl _ _ | with_reducible assumption | with_reducible refine q_alloc ?_ _ | with_reducible refine q_drew ?_ | with_reducible refine q_drewN _ ?_ | with_reducible refine q_setCell ?_ ?_ _ | (left; simp; done) | (right; simp; done) | (right; dsimp only; omega) | (left; dsimp only; omega)))) ?_
  intro W5 hq5
  refine (radd_any ⟨g0, g1, g2, g3, g4, g5, g6, g7, g8⟩ _ gs W5 (HV.out.below (q_step hq44 hq5)) (by omega)).mono ?_
  rintro e w6 ⟨v6, rfl, hi6, hf6, hb6⟩
  have hs6 : w.heap.size ≤ W5.heap.size := (q_step hq44 hq5).size
  have HF6 : Hid (v6 = .slice B n bcap ∨ ApartG w.heap.size v6) := Lib.hid (by
    rcases hf6 with h | h
    · exact Or.inl h
    · exact Or.inr (apart_le (apart_far h) hs6))
  have hz6 : w.heap.size + 1 + 1 < W5.heap.size := Nat.lt_of_lt_of_le c2.lt (q_step hq4 hq5).size
  have HNI6 : Hid (NotIn (w.heap.size + 1 + 1) v6) := Lib.hid (by
    rcases hf6 with h | h
    · rw [h]; exact notIn_old HV.out (by omega)
    · exact notIn_far h hz6)
  have hq6 := q_step hq5 hb6
  have hq66 := q_step hq44 hq6
  have hq26 := q_step hq4 hq6
  have HI6 : Hid (IsG w6 v6 (addL ⟨g0, g1, g2, g3, g4, g5, g6, g7, g8⟩ gs)) := Lib.hid (by rw [← radd_add _ HU.out]; exact hi6)
  have HI2 := Lib.hid (HI.out.below hq26)
  have c6 := c2.below hq26
  have b6 := b4.below hq6
  have C6 := Lib.hid c6
  have x0 := b6.cell 0 rfl
  have e0 := c6.cell 0 rfl
  have f0 := c6.froz 0 rfl
  have z6 := c6.lt
  have z7 := b6.lt
  obtain ⟨A6, cap6, rfl, _⟩ := HI6.out
  have hqq : (addE ⟨g0, g1, g2, g3, g4, g5, g6, g7, g8⟩ gs == addE ⟨g0, g1, g2, g3, g4, g5, g6, g7, g8⟩ gs) = true := by simp
  obtain ⟨E, hE⟩ : ∃ E, addE ⟨g0, g1, g2, g3, g4, g5, g6, g7, g8⟩ gs = E := ⟨_, rfl⟩
  rw [hE]
  clear hi6 hf6 hb6 hq5 hq6 hq26 hq4 hq44 hq2 hqq c1 c2 b4 c6 b6 hE
  go_wp2_with fail
  refine body_world (fun W => Below w.heap.size w W ∧ Blk W (w.heap.size + 1 + 1) [.slice A2 m2 cap2] ∧ IsG W (.slice A2 m2 cap2) (addL ⟨g0, g1, g2, g3, g4, g5, g6, g7, g8⟩ gs) ∧ IsG W (.slice A6 (addL ⟨g0, g1, g2, g3, g4, g5, g6, g7, g8⟩ gs).length cap6) (addL ⟨g0, g1, g2, g3, g4, g5, g6, g7, g8⟩ gs)) ⟨q_setCell hq66 (Or.inr (by dsimp only; omega)) _, C6.out.set 0 _ (by simp) rfl, isG_apart HI2.out HNI.out _ _, isG_apart HI6.out HNI6.out _ _⟩ ?_
  · intro W9 ⟨hq9, b9, i9, j9⟩
    clear e0 f0 x0
    have d0 := b9.cell 0 rfl
    exact bodyPost_ret (v := .tuple #[.agg #[.slice A2 m2 cap2], .slice A6 (addL ⟨g0, g1, g2, g3, g4, g5, g6, g7, g8⟩ gs).length cap6, .bool true]) (by simp [results, Try.results24, go_sem, d0]) rfl ⟨_, _, rfl, i9, j9, HF.out, HF6.out, hq9⟩
end Go.Proofs.Ytmcndiljldbkcaa
/- Layer 38: an act that drops. -/
namespace Go.Proofs.Ytmcndiljldbkcaa
open Go Go.RowKit
set_option linter.unusedSimpArgs false
set_option linter.unusedVariables false
/-- The world while an act is done. -/
def Dn (w : World) (tv : Value) (cs : List Value) (W : World) : Prop := Below w.heap.size w W ∧ Blk W w.heap.size [tv] ∧ Blk W (w.heap.size + 1) cs ∧ ∃ u, Blk W (w.heap.size + 1 + 1) [u]
theorem Dn.call {w W W' : World} {tv : Value} {cs : List Value} (h : Dn w tv cs W) (hb : Below W.heap.size W W') : Dn w tv cs W' :=
  ⟨q_step h.1 hb, h.2.1.below hb, h.2.2.1.below hb, h.2.2.2.choose, h.2.2.2.choose_spec.below hb⟩
theorem Dn.drew {w W : World} {tv : Value} {cs : List Value} (h : Dn w tv cs W) : Dn w tv cs W.drew := h.call (Below.refl _ _).drew
theorem Dn.set {w W : World} {tv : Value} {cs : List Value} (h : Dn w tv cs W) (u : Value) : Dn w tv cs (W.setCell ⟨w.heap.size + 1 + 1, 0, none⟩ u) :=
  ⟨q_setCell h.1 (Or.inr (by dsimp only; omega)) _, h.2.1.set_far (by dsimp only; omega) _, h.2.2.1.set_far (by dsimp only; omega) _, u, h.2.2.2.choose_spec.set 0 _ (by simp) rfl⟩
theorem Dn.b {w W : World} {tv : Value} {cs : List Value} (h : Dn w tv cs W) : Below w.heap.size w W := h.1
theorem Dn.there {w W : World} {tv : Value} {cs : List Value} (h : Dn w tv cs W) : ∃ u, W.cell? ⟨w.heap.size + 1 + 1, 0, none⟩ = some u ∧ W.frozen? ⟨w.heap.size + 1 + 1, 0, none⟩ = false := by
  obtain ⟨u, hu⟩ := h.2.2.2
  exact ⟨u, hu.cell 0 rfl, hu.froz 0 rfl⟩
theorem Dn.lt {w W : World} {tv : Value} {cs : List Value} (h : Dn w tv cs W) : w.heap.size + 1 + 1 < W.heap.size := h.2.2.2.choose_spec.lt
set_option maxRecDepth 100000 in
set_option maxHeartbeats 16000000 in
theorem done_drop (g0 g1 : Int) (g2 : Bool) (g3 g4 : Int) (g5 : Bool) (g6 g7 g8 : Int) (ia : Option Addr) (il ic : Nat) (tv lv : Value) (gs : List G) (w : World) (ht : IsG w tv gs) (hv : IsG w lv gs) (hl : gs.length ≤ 256) (hu : UniqG gs) :
    Calls Try.prog 24 #[.agg #[tv], lv, .agg #[i6 1, i6 g0, u3 g1, .bool g2, i6 g3, i6 g4, .bool g5, i6 g6, i6 g7, i6 g8, .slice ia il ic]] w fun e w' => ∃ v' m', e = .returned (.tuple #[.agg #[v'], m', .bool true]) ∧ IsG w' v' (leftL (dropB g0 g1 g2 g3 g4) gs) ∧ IsG w' m' (leftL (dropB g0 g1 g2 g3 g4) gs) ∧ (v' = tv ∨ ApartG w.heap.size v') ∧ (m' = lv ∨ ApartG w.heap.size m') ∧ Below w.heap.size w w' := by
  have HT := Lib.hid ht
  have HV := Lib.hid hv
  have HU := Lib.hid hu
  obtain ⟨A, cap, rfl, _⟩ := ht
  obtain ⟨B, bcap, rfl, _⟩ := hv
  clear hu
  obtain ⟨n, hn⟩ : ∃ n, gs.length = n := ⟨_, rfl⟩
  have HN := Lib.hid hn
  have hl1 := hl
  rw [hn] at HT HV hl ⊢
  clear hn
  go_enter Try.func24, Try.ntmps24
  go_wp2_with fail
  refine code_world (fun W => Dn w (.slice A n cap) [i6 1, i6 g0, u3 g1, .bool g2, i6 g3, i6 g4, .bool g5, i6 g6, i6 g7, i6 g8, .slice ia il ic] W) ⟨by (repeat' (first | with_reducible exact Below.refl _ _ | with_reducible assumption | with_reducible refine q_alloc ?_ _ | with_reducible refine q_drew ?_ | with_reducible refine q_drewN _ ?_ | with_reducible refine q_setCell ?_ ?_ _ | (left; simp; done) | (right; simp; done) | (right; dsimp only; omega) | (left; dsimp only; omega))), ?a1, ?a2, .slice none 0 0, ?a3⟩ ?_
  case a1 => exact ((Blk.new rfl).alloc _).alloc _
  case a2 => exact (blk_new1 rfl).alloc _
  case a3 => exact blk_new2 rfl
  intro W1 J
  have s0 : ∀ W, Dn w (.slice A n cap) [i6 1, i6 g0, u3 g1, .bool g2, i6 g3, i6 g4, .bool g5, i6 g6, i6 g7, i6 g8, .slice ia il ic] W → W.cell? ⟨w.heap.size, 0, none⟩ = some (.slice A n cap) := fun W h => h.2.1.cell 0 rfl
  have s1 : ∀ W, Dn w (.slice A n cap) [i6 1, i6 g0, u3 g1, .bool g2, i6 g3, i6 g4, .bool g5, i6 g6, i6 g7, i6 g8, .slice ia il ic] W → W.cell? ⟨w.heap.size + 1, 0, none⟩ = some (i6 1) := fun W h => h.2.2.1.cell 0 rfl
  have s2 : ∀ W, Dn w (.slice A n cap) [i6 1, i6 g0, u3 g1, .bool g2, i6 g3, i6 g4, .bool g5, i6 g6, i6 g7, i6 g8, .slice ia il ic] W → W.cell? ⟨w.heap.size + 1, 1, none⟩ = some (i6 g0) := fun W h => h.2.2.1.cell 1 rfl
  have s3 : ∀ W, Dn w (.slice A n cap) [i6 1, i6 g0, u3 g1, .bool g2, i6 g3, i6 g4, .bool g5, i6 g6, i6 g7, i6 g8, .slice ia il ic] W → W.cell? ⟨w.heap.size + 1, 2, none⟩ = some (u3 g1) := fun W h => h.2.2.1.cell 2 rfl
  have s4 : ∀ W, Dn w (.slice A n cap) [i6 1, i6 g0, u3 g1, .bool g2, i6 g3, i6 g4, .bool g5, i6 g6, i6 g7, i6 g8, .slice ia il ic] W → W.cell? ⟨w.heap.size + 1, 3, none⟩ = some (.bool g2) := fun W h => h.2.2.1.cell 3 rfl
  have s5 : ∀ W, Dn w (.slice A n cap) [i6 1, i6 g0, u3 g1, .bool g2, i6 g3, i6 g4, .bool g5, i6 g6, i6 g7, i6 g8, .slice ia il ic] W → W.cell? ⟨w.heap.size + 1, 4, none⟩ = some (i6 g3) := fun W h => h.2.2.1.cell 4 rfl
  have s6 : ∀ W, Dn w (.slice A n cap) [i6 1, i6 g0, u3 g1, .bool g2, i6 g3, i6 g4, .bool g5, i6 g6, i6 g7, i6 g8, .slice ia il ic] W → W.cell? ⟨w.heap.size + 1, 5, none⟩ = some (i6 g4) := fun W h => h.2.2.1.cell 5 rfl
  go_region_held3 (fun W => Dn w (.slice A n cap) [i6 1, i6 g0, u3 g1, .bool g2, i6 g3, i6 g4, .bool g5, i6 g6, i6 g7, i6 g8, .slice ia il ic] W)
    (first | with_reducible exact J | with_reducible exact J.drew | with_reducible exact J.set _ | with_reducible exact J.drew.set _ | with_reducible exact (J.set _).drew | with_reducible exact (J.drew.set _).drew)
    (first
      | (go_at_call 40; refine (pdrop_any g0 g1 g2 g3 g4 gs _ _ (HT.out.below (Dn.b (by first | with_reducible exact J | with_reducible exact J.drew | with_reducible exact J.set _ | with_reducible exact J.drew.set _ | with_reducible exact (J.set _).drew | with_reducible exact (J.drew.set _).drew))) (Nat.le_trans hl1 (by decide))).mono ?_; rintro e w5 ⟨v5, rfl, hi5, hf5, hb5⟩; have N5 := Lib.hid (apart_left hi5 hf5); replace N5 := Lib.hid (apart_le N5.out (Nat.succ_le_of_lt (Dn.lt (by first | with_reducible exact J | with_reducible exact J.drew | with_reducible exact J.set _ | with_reducible exact J.drew.set _ | with_reducible exact (J.set _).drew | with_reducible exact (J.drew.set _).drew)))); have J5 : Dn w _ _ w5 := Dn.call (by first | with_reducible exact J | with_reducible exact J.drew | with_reducible exact J.set _ | with_reducible exact J.drew.set _ | with_reducible exact (J.set _).drew | with_reducible exact (J.drew.set _).drew) hb5; have I5 := Lib.hid hi5; obtain ⟨A5, cap5, rfl, _⟩ := hi5; obtain ⟨u5, hc5, hfz5⟩ := J5.there; (try (replace I6 := Lib.hid (I6.out.below (below_le hb5 (by simp))))); replace J := J5; clear J5 hb5 hf5)
      | (go_at_call 41; refine (rdrop_any _ gs g0 g1 g2 g3 g4 _ (HV.out.below (Dn.b (by first | with_reducible exact J | with_reducible exact J.drew | with_reducible exact J.set _ | with_reducible exact J.drew.set _ | with_reducible exact (J.set _).drew | with_reducible exact (J.drew.set _).drew))) (by omega)).mono ?_; rintro e w6 ⟨v6, rfl, ho6, hb6⟩; have N6 := Lib.hid (apart_le (apart_far (own_far ho6)) (Nat.succ_le_of_lt (Dn.lt (by first | with_reducible exact J | with_reducible exact J.drew | with_reducible exact J.set _ | with_reducible exact J.drew.set _ | with_reducible exact (J.set _).drew | with_reducible exact (J.drew.set _).drew)))); have J6 : Dn w _ _ w6 := Dn.call (by first | with_reducible exact J | with_reducible exact J.drew | with_reducible exact J.set _ | with_reducible exact J.drew.set _ | with_reducible exact (J.set _).drew | with_reducible exact (J.drew.set _).drew) hb6; have I6 := Lib.hid (ownH_is ho6); obtain ⟨A6, cap6, rfl, _⟩ := I6.out; obtain ⟨u6, hc6, hfz6⟩ := J6.there; replace J := J6; clear J6 ho6))
  all_goals
    have I55 := I5.out.below hb6
    obtain ⟨u, hu⟩ := J.2.2.2
    have hq := J.1
    clear s0 s1 s2 s3 s4 s5 s6
    go_wp2_with fail
    refine body_world (fun W => Below w.heap.size w W ∧ Blk W (w.heap.size + 1 + 1) [.slice A5 (leftL (dropB g0 g1 g2 g3 g4) gs).length cap5] ∧ IsG W (.slice A5 (leftL (dropB g0 g1 g2 g3 g4) gs).length cap5) (leftL (dropB g0 g1 g2 g3 g4) gs) ∧ IsG W (.slice A6 (leftL (dropB g0 g1 g2 g3 g4) gs).length cap6) (leftL (dropB g0 g1 g2 g3 g4) gs)) ⟨q_setCell hq (Or.inr (by dsimp only; omega)) _, hu.set 0 _ (by simp) rfl, isG_apart I55 (N5.out _ (Nat.lt_succ_self _)) _ _, isG_apart I6.out (N6.out _ (Nat.lt_succ_self _)) _ _⟩ ?_
    intro W9 ⟨hq9, b9, i9, j9⟩
    have d0 := b9.cell 0 rfl
    exact bodyPost_ret (v := .tuple #[.agg #[.slice A5 (leftL (dropB g0 g1 g2 g3 g4) gs).length cap5], .slice A6 (leftL (dropB g0 g1 g2 g3 g4) gs).length cap6, .bool true]) (by simp [results, Try.results24, go_sem, d0]) rfl ⟨_, _, rfl, i9, j9, Or.inr (apart_le N5.out (by omega)), Or.inr (apart_le N6.out (by omega)), hq9⟩
end Go.Proofs.Ytmcndiljldbkcaa
/- Layer 38: an act of leaving. -/
namespace Go.Proofs.Ytmcndiljldbkcaa
open Go Go.RowKit
set_option linter.unusedSimpArgs false
set_option linter.unusedVariables false
set_option maxRecDepth 100000 in
set_option maxHeartbeats 16000000 in
theorem done_leave (g0 g1 : Int) (g2 : Bool) (g3 g4 : Int) (g5 : Bool) (g6 g7 g8 : Int) (ia : Option Addr) (il ic : Nat) (tv lv : Value) (gs : List G) (w : World) (ht : IsG w tv gs) (hv : IsG w lv gs) (hl : gs.length ≤ 256) (hu : UniqG gs) (is : List Int) (hs : IsInts w .u32 (.slice ia il ic) is) (hin : is.length = il) (hil : il ≤ 1000) (hub : ∀ u ∈ is, 0 ≤ u ∧ u < 4294967296) :
    Calls Try.prog 24 #[.agg #[tv], lv, .agg #[i6 2, i6 g0, u3 g1, .bool g2, i6 g3, i6 g4, .bool g5, i6 g6, i6 g7, i6 g8, .slice ia il ic]] w fun e w' => ∃ v' m', e = .returned (.tuple #[.agg #[v'], m', .bool true]) ∧ IsG w' v' (leftL (leaveB g0 is) gs) ∧ IsG w' m' (leftL (leaveB g0 is) gs) ∧ (v' = tv ∨ ApartG w.heap.size v') ∧ (m' = lv ∨ ApartG w.heap.size m') ∧ Below w.heap.size w w' := by
  have HT := Lib.hid ht
  have HV := Lib.hid hv
  have HU := Lib.hid hu
  obtain ⟨A, cap, rfl, _⟩ := ht
  obtain ⟨B, bcap, rfl, _⟩ := hv
  clear hu
  have HS := Lib.hid hs
  have HIN := Lib.hid hin
  have HUB := Lib.hid hub
  clear hs hin hub
  obtain ⟨n, hn⟩ : ∃ n, gs.length = n := ⟨_, rfl⟩
  have HN := Lib.hid hn
  have hl1 := hl
  rw [hn] at HT HV hl ⊢
  clear hn
  go_enter Try.func24, Try.ntmps24
  go_wp2_with fail
  refine code_world (fun W => Dn w (.slice A n cap) [i6 2, i6 g0, u3 g1, .bool g2, i6 g3, i6 g4, .bool g5, i6 g6, i6 g7, i6 g8, .slice ia il ic] W) ⟨by (repeat' (first | with_reducible exact Below.refl _ _ | with_reducible assumption | with_reducible refine q_alloc ?_ _ | with_reducible refine q_drew ?_ | with_reducible refine q_drewN _ ?_ | with_reducible refine q_setCell ?_ ?_ _ | (left; simp; done) | (right; simp; done) | (right; dsimp only; omega) | (left; dsimp only; omega))), ?a1, ?a2, .slice none 0 0, ?a3⟩ ?_
  case a1 => exact ((Blk.new rfl).alloc _).alloc _
  case a2 => exact (blk_new1 rfl).alloc _
  case a3 => exact blk_new2 rfl
  intro W1 J
  have s0 : ∀ W, Dn w (.slice A n cap) [i6 2, i6 g0, u3 g1, .bool g2, i6 g3, i6 g4, .bool g5, i6 g6, i6 g7, i6 g8, .slice ia il ic] W → W.cell? ⟨w.heap.size, 0, none⟩ = some (.slice A n cap) := fun W h => h.2.1.cell 0 rfl
  have s1 : ∀ W, Dn w (.slice A n cap) [i6 2, i6 g0, u3 g1, .bool g2, i6 g3, i6 g4, .bool g5, i6 g6, i6 g7, i6 g8, .slice ia il ic] W → W.cell? ⟨w.heap.size + 1, 0, none⟩ = some (i6 2) := fun W h => h.2.2.1.cell 0 rfl
  have s2 : ∀ W, Dn w (.slice A n cap) [i6 2, i6 g0, u3 g1, .bool g2, i6 g3, i6 g4, .bool g5, i6 g6, i6 g7, i6 g8, .slice ia il ic] W → W.cell? ⟨w.heap.size + 1, 1, none⟩ = some (i6 g0) := fun W h => h.2.2.1.cell 1 rfl
  have s11 : ∀ W, Dn w (.slice A n cap) [i6 2, i6 g0, u3 g1, .bool g2, i6 g3, i6 g4, .bool g5, i6 g6, i6 g7, i6 g8, .slice ia il ic] W → W.cell? ⟨w.heap.size + 1, 10, none⟩ = some (.slice ia il ic) := fun W h => h.2.2.1.cell 10 rfl
  go_region_held3 (fun W => Dn w (.slice A n cap) [i6 2, i6 g0, u3 g1, .bool g2, i6 g3, i6 g4, .bool g5, i6 g6, i6 g7, i6 g8, .slice ia il ic] W)
    (first | with_reducible exact J | with_reducible exact J.drew | with_reducible exact J.set _ | with_reducible exact J.drew.set _ | with_reducible exact (J.set _).drew | with_reducible exact (J.drew.set _).drew)
    (first
      | (go_at_call 23; refine (pleave_any g0 ia il ic is gs _ _ (HT.out.below (Dn.b (by first | with_reducible exact J | with_reducible exact J.drew | with_reducible exact J.set _ | with_reducible exact J.drew.set _ | with_reducible exact (J.set _).drew | with_reducible exact (J.drew.set _).drew))) (Nat.le_trans hl1 (by decide)) (ints_lower HS.out (Dn.b (by first | with_reducible exact J | with_reducible exact J.drew | with_reducible exact J.set _ | with_reducible exact J.drew.set _ | with_reducible exact (J.set _).drew | with_reducible exact (J.drew.set _).drew))) HIN.out hil).mono ?_; rintro e w5 ⟨v5, rfl, hi5, hf5, hb5⟩; have N5 := Lib.hid (apart_left hi5 hf5); replace N5 := Lib.hid (apart_le N5.out (Nat.succ_le_of_lt (Dn.lt (by first | with_reducible exact J | with_reducible exact J.drew | with_reducible exact J.set _ | with_reducible exact J.drew.set _ | with_reducible exact (J.set _).drew | with_reducible exact (J.drew.set _).drew)))); have J5 : Dn w _ _ w5 := Dn.call (by first | with_reducible exact J | with_reducible exact J.drew | with_reducible exact J.set _ | with_reducible exact J.drew.set _ | with_reducible exact (J.set _).drew | with_reducible exact (J.drew.set _).drew) hb5; have I5 := Lib.hid hi5; obtain ⟨A5, cap5, rfl, _⟩ := hi5; obtain ⟨u5, hc5, hfz5⟩ := J5.there; (try (replace I6 := Lib.hid (I6.out.below (below_le hb5 (by simp))))); replace J := J5; clear J5 hb5 hf5)
      | (go_at_call 15; refine (ids_any ia il ic is _ (ints_lower HS.out (Dn.b (by first | with_reducible exact J | with_reducible exact J.drew | with_reducible exact J.set _ | with_reducible exact J.drew.set _ | with_reducible exact (J.set _).drew | with_reducible exact (J.drew.set _).drew))) HIN.out HUB.out hil).mono ?_; rintro e w7 ⟨ja, jc, rfl, ks, hb7⟩; have KS := Lib.hid ks; have J7 : Dn w _ _ w7 := Dn.call (by first | with_reducible exact J | with_reducible exact J.drew | with_reducible exact J.set _ | with_reducible exact J.drew.set _ | with_reducible exact (J.set _).drew | with_reducible exact (J.drew.set _).drew) hb7; have I57 := Lib.hid (I5.out.below hb7); clear ks; replace J := J7; clear J7)
      | (go_at_call 42; refine (rleave_any _ gs g0 ja il jc is _ (HV.out.below (Dn.b (by first | with_reducible exact J | with_reducible exact J.drew | with_reducible exact J.set _ | with_reducible exact J.drew.set _ | with_reducible exact (J.set _).drew | with_reducible exact (J.drew.set _).drew))) (by omega) KS.out HIN.out hil).mono ?_; rintro e w6 ⟨v6, rfl, ho6, hb6⟩; have N6 := Lib.hid (apart_le (apart_far (own_far ho6)) (Nat.succ_le_of_lt (Dn.lt (by first | with_reducible exact J | with_reducible exact J.drew | with_reducible exact J.set _ | with_reducible exact J.drew.set _ | with_reducible exact (J.set _).drew | with_reducible exact (J.drew.set _).drew)))); have J6 : Dn w _ _ w6 := Dn.call (by first | with_reducible exact J | with_reducible exact J.drew | with_reducible exact J.set _ | with_reducible exact J.drew.set _ | with_reducible exact (J.set _).drew | with_reducible exact (J.drew.set _).drew) hb6; have I6 := Lib.hid (ownH_is ho6); obtain ⟨A6, cap6, rfl, _⟩ := I6.out; obtain ⟨u6, hc6, hfz6⟩ := J6.there; replace J := J6; clear J6 ho6))
  all_goals
    have I55 := I57.out.below hb6
    obtain ⟨u, hu⟩ := J.2.2.2
    have hq := J.1
    clear s0 s1 s2 s11
    go_wp2_with fail
    refine body_world (fun W => Below w.heap.size w W ∧ Blk W (w.heap.size + 1 + 1) [.slice A5 (leftL (leaveB g0 is) gs).length cap5] ∧ IsG W (.slice A5 (leftL (leaveB g0 is) gs).length cap5) (leftL (leaveB g0 is) gs) ∧ IsG W (.slice A6 (leftL (leaveB g0 is) gs).length cap6) (leftL (leaveB g0 is) gs)) ⟨q_setCell hq (Or.inr (by dsimp only; omega)) _, hu.set 0 _ (by simp) rfl, isG_apart I55 (N5.out _ (Nat.lt_succ_self _)) _ _, isG_apart I6.out (N6.out _ (Nat.lt_succ_self _)) _ _⟩ ?_
    intro W9 ⟨hq9, b9, i9, j9⟩
    have d0 := b9.cell 0 rfl
    exact bodyPost_ret (v := .tuple #[.agg #[.slice A5 (leftL (leaveB g0 is) gs).length cap5], .slice A6 (leftL (leaveB g0 is) gs).length cap6, .bool true]) (by simp [results, Try.results24, go_sem, d0]) rfl ⟨_, _, rfl, i9, j9, Or.inr (apart_le N5.out (by omega)), Or.inr (apart_le N6.out (by omega)), hq9⟩
end Go.Proofs.Ytmcndiljldbkcaa
/- Layer 38: done, of any act. -/
namespace Go.Proofs.Ytmcndiljldbkcaa
open Go Go.RowKit
set_option linter.unusedSimpArgs false
set_option linter.unusedVariables false
/-- What the table has behind an act. -/
def stepL (x : Ac) (is : List Int) (gs : List G) : List G :=
  if x.kd = 0 then addL x.g gs else if x.kd = 1 then leftL (dropB x.g.cl x.g.wi x.g.bu x.g.co x.g.mo) gs else if x.kd = 2 then leftL (leaveB x.g.cl is) gs else gs
theorem stepL_len (x : Ac) (is : List Int) (gs : List G) (h : gs.length ≤ 256) : (stepL x is gs).length ≤ 256 := by
  unfold stepL
  split
  · exact addL_len _ _ h
  split
  · exact Nat.le_trans (List.length_filter_le _ _) h
  split
  · exact Nat.le_trans (List.length_filter_le _ _) h
  · exact h
theorem stepL_uniq (x : Ac) (is : List Int) (gs : List G) (h : UniqG gs) : UniqG (stepL x is gs) := by
  unfold stepL
  split
  · exact uniq_add _ h
  split
  · exact uniq_left h
  split
  · exact uniq_left h
  · exact h
/-- The act's ids lie there. -/
def IdsOf (w : World) (x : Ac) (is : List Int) : Prop := IsInts w .u32 (.slice x.ia x.il x.ic) is ∧ is.length = x.il ∧ x.il ≤ 1000 ∧ ∀ u ∈ is, 0 ≤ u ∧ u < 4294967296
theorem IdsOf.below {w w' : World} {x : Ac} {is : List Int} (h : IdsOf w x is) (hb : Below w.heap.size w w') : IdsOf w' x is := ⟨ints_lower h.1 hb, h.2⟩
theorem done_any (x : Ac) (is : List Int) (tv lv : Value) (gs : List G) (w : World) (ht : IsG w tv gs) (hv : IsG w lv gs) (hl : gs.length ≤ 256) (hu : UniqG gs) (hi : IdsOf w x is) :
    Calls Try.prog 24 #[.agg #[tv], lv, .agg #[i6 x.kd, i6 x.g.cl, u3 x.g.wi, .bool x.g.bu, i6 x.g.co, i6 x.g.mo, .bool x.g.ow, i6 x.g.ma, i6 x.g.pt, i6 x.g.kb, .slice x.ia x.il x.ic]] w fun e w' => ∃ v' m', e = .returned (.tuple #[.agg #[v'], m', .bool true]) ∧ IsG w' v' (stepL x is gs) ∧ IsG w' m' (stepL x is gs) ∧ (v' = tv ∨ ApartG w.heap.size v') ∧ (m' = lv ∨ ApartG w.heap.size m') ∧ Below w.heap.size w w' := by
  obtain ⟨kd, ⟨g0, g1, g2, g3, g4, g5, g6, g7, g8⟩, ia, il, ic⟩ := x
  unfold stepL
  dsimp only
  by_cases k0 : kd = 0
  · subst k0
    rw [if_pos rfl]
    exact done_add g0 g1 g2 g3 g4 g5 g6 g7 g8 ia il ic tv lv gs w ht hv hl hu
  rw [if_neg k0]
  by_cases k1 : kd = 1
  · subst k1
    rw [if_pos rfl]
    exact done_drop g0 g1 g2 g3 g4 g5 g6 g7 g8 ia il ic tv lv gs w ht hv hl hu
  rw [if_neg k1]
  by_cases k2 : kd = 2
  · subst k2
    rw [if_pos rfl]
    exact done_leave g0 g1 g2 g3 g4 g5 g6 g7 g8 ia il ic tv lv gs w ht hv hl hu is hi.1 hi.2.1 hi.2.2.1 hi.2.2.2
  rw [if_neg k2]
  exact done_other kd k0 k1 k2 g0 g1 g2 g3 g4 g5 g6 g7 g8 ia il ic tv lv gs w ht hv hl hu
end Go.Proofs.Ytmcndiljldbkcaa
/- Layer 38: played. -/
namespace Go.Proofs.Ytmcndiljldbkcaa
open Go Go.RowKit
set_option linter.unusedSimpArgs false
set_option linter.unusedVariables false
def ApartR (B : Nat) (o v : Value) : Prop := v = o ∨ ApartG B v
theorem apartR_of {v o : Value} {B B' : Nat} (h : v = o ∨ ApartG B v) (hb : B' ≤ B) : ApartR B' o v := h.imp_right (fun h => apart_le h hb)
theorem notIn_new {w : World} {v o : Value} {B : Nat} {gs : List G} (h : IsG w o gs) (hf : v = o ∨ ApartG B v) (hb : w.heap.size < B) : NotIn w.heap.size v := by
  rcases hf with rfl | h'
  · exact notIn_old h (Nat.le_refl _)
  · exact h' _ hb
theorem ApartR.not {B c : Nat} {o v : Value} (h : ApartR B o v) (ho : NotIn c o) (hc : c < B) : NotIn c v := by
  rcases h with rfl | h
  · exact ho
  · exact h _ hc
set_option maxRecDepth 100000 in
set_option maxHeartbeats 16000000 in
theorem played_any (v : Value) (xs : List Ac) (w : World) (hv : IsAct w v xs) (hl : xs.length ≤ 60) (hid : ∀ x ∈ xs, ∃ is, IdsOf w x is) :
    Calls Try.prog 12 #[v] w fun e w' => ∃ (v' m' : Value) (gs : List G), e = .returned (.tuple #[.agg #[v'], m', .bool true]) ∧ IsG w' v' gs ∧ IsG w' m' gs ∧ UniqG gs ∧ gs.length ≤ 256 ∧ Below w.heap.size w w' := by
  obtain ⟨XA, xcap, rfl, hf⟩ := hv
  have HF := Lib.hid hf
  have HIDS := Lib.hid hid
  clear hf hid
  obtain ⟨n, hn⟩ : ∃ n, xs.length = n := ⟨_, rfl⟩
  rw [hn] at HF hl ⊢
  have HN := Lib.hid hn
  clear hn
  go_enter Try.func12, Try.ntmps12
  go_wp2_with fail
  refine code_world (fun W => Below w.heap.size w W ∧ Blk W w.heap.size [.slice none 0 0] ∧ Blk W (w.heap.size + 1) [.slice none 0 0]) ⟨by (repeat' (first | with_reducible exact Below.refl _ _ | with_reducible assumption | with_reducible refine q_alloc ?_ _ | with_reducible refine q_drew ?_ | with_reducible refine q_drewN _ ?_ | with_reducible refine q_setCell ?_ ?_ _ | (left; simp; done) | (right; simp; done) | (right; dsimp only; omega) | (left; dsimp only; omega))), (Blk.new rfl).alloc _, blk_new1 rfl⟩ ?_
  intro W1 ⟨hq1, b1, c1⟩
  obtain ⟨c, hc⟩ : ∃ c, c = w.heap.size + 1 := ⟨_, rfl⟩
  obtain ⟨r, hr⟩ : ∃ r, r = w.heap.size := ⟨_, rfl⟩
  have hrc : r < c := by omega
  have hrw : w.heap.size ≤ r := by omega
  rw [← hc] at c1 ⊢
  rw [← hr] at b1 ⊢
  clear hc hr
  go_loopw [6, 7] (fun m i wr => ∃ (k : Nat) (A B : Option Addr) (cap bcap : Nat) (gs : List G), k ≤ n ∧ i = .int .i64 k ∧ m = .slice B gs.length bcap ∧ Hid (gs.length ≤ 256) ∧ Hid (UniqG gs) ∧ Hid (Blk wr c [.slice A gs.length cap]) ∧ Hid (Blk wr r [.slice none 0 0]) ∧ Hid (IsG wr (.slice A gs.length cap) gs) ∧ Hid (IsG wr (.slice B gs.length bcap) gs) ∧ Hid (NotIn c (.slice A gs.length cap) ∧ NotIn r (.slice A gs.length cap) ∧ NotIn c (.slice B gs.length bcap) ∧ NotIn r (.slice B gs.length bcap)) ∧ Hid (Below w.heap.size w wr))
    (fun _ i _ => n - (intOf i).toNat)
  case atStart =>
    have hni : ∀ q : Nat, NotIn q (.slice none 0 0) := fun q b o n m e => by injection e with e1; cases e1
    exact ⟨0, none, none, 0, 0, [], Nat.zero_le _, rfl, rfl, Lib.hid (by simp), Lib.hid List.Pairwise.nil, Lib.hid c1, Lib.hid b1, Lib.hid (IsG.nil _), Lib.hid (IsG.nil _), Lib.hid ⟨hni _, hni _, hni _, hni _⟩, Lib.hid hq1⟩
  case round =>
    obtain ⟨k, A, B, cap, bcap, gs, hk, rfl, rfl, HL, HU, HC, HR, HT, HM, HNI, HQ⟩ := hrel
    have zc := HC.out.lt
    have zr := HR.out.lt
    by_cases hlt : k < n
    · obtain ⟨b, off, rfl, hb, hlay⟩ := HF.out (by omega)
      obtain ⟨x, hx⟩ : ∃ x, xs[k]? = some x := ⟨_, List.getElem?_eq_getElem (by rw [HN.out]; exact hlt)⟩
      obtain ⟨is, hid⟩ := HIDS.out x (List.mem_of_getElem? hx)
      have HID := Lib.hid (hid.below HQ.out)
      have hki : (k : Int) < (n : Int) := by omega
      have hcs := fun j u hj => cell_below HQ.out (hlay k x hx j u hj)
      have t0 := stick (hcs 0 _ rfl)
      rw [Nat.add_zero] at t0
      have t1 := stick (hcs 1 _ rfl)
      have t2 := stick (hcs 2 _ rfl)
      have t3 := stick (hcs 3 _ rfl)
      have t4 := stick (hcs 4 _ rfl)
      have t5 := stick (hcs 5 _ rfl)
      have t6 := stick (hcs 6 _ rfl)
      have t7 := stick (hcs 7 _ rfl)
      have t8 := stick (hcs 8 _ rfl)
      have t9 := stick (hcs 9 _ rfl)
      have t10 := stick (hcs 10 _ rfl)
      have s0 := stick (HC.out.cell 0 rfl)
      clear hcs hlay hx hid
      have J : Below wr.heap.size wr wr := Below.refl _ _
      go_upto_region 6 with fail
      go_cut [8, 9, 10] from 18 to 28 (fun p m q wx => ∃ (d : Nat) (A5 B5 : Option Addr) (cap5 bcap5 : Nat), p = .pointer (some ⟨d, 0, none⟩) ∧ m = .slice B5 (stepL x is gs).length bcap5 ∧ q = .bool true ∧ Blk wx d [.slice A5 (stepL x is gs).length cap5] ∧ wr.heap.size ≤ d ∧ IsG wx (.slice A5 (stepL x is gs).length cap5) (stepL x is gs) ∧ IsG wx (.slice B5 (stepL x is gs).length bcap5) (stepL x is gs) ∧ ApartR wr.heap.size (.slice A gs.length cap) (.slice A5 (stepL x is gs).length cap5) ∧ ApartR wr.heap.size (.slice B gs.length bcap) (.slice B5 (stepL x is gs).length bcap5) ∧ Below wr.heap.size wr wx)
      case first =>
        go_region_held3 (fun w' => Below wr.heap.size wr w')
          (first | with_reducible exact J | with_reducible exact J.drew | with_reducible exact q_alloc J _ | with_reducible exact q_alloc J.drew _ | (exact by (repeat' (first | with_reducible exact Below.refl _ _ | with_reducible assumption | with_reducible refine q_alloc ?_ _ | with_reducible refine q_drew ?_ | with_reducible refine q_drewN _ ?_ | with_reducible refine q_setCell ?_ ?_ _ | (left; simp; done) | (right; simp; done) | (right; dsimp only; omega) | (left; dsimp only; omega)))))
          (first
            | (go_at_call 24; refine (done_any x is _ _ gs _ (HT.out.below (by first | with_reducible exact J | with_reducible exact J.drew | with_reducible exact q_alloc J _ | with_reducible exact q_alloc J.drew _ | (exact by (repeat' (first | with_reducible exact Below.refl _ _ | with_reducible assumption | with_reducible refine q_alloc ?_ _ | with_reducible refine q_drew ?_ | with_reducible refine q_drewN _ ?_ | with_reducible refine q_setCell ?_ ?_ _ | (left; simp; done) | (right; simp; done) | (right; dsimp only; omega) | (left; dsimp only; omega)))))) (HM.out.below (by first | with_reducible exact J | with_reducible exact J.drew | with_reducible exact q_alloc J _ | with_reducible exact q_alloc J.drew _ | (exact by (repeat' (first | with_reducible exact Below.refl _ _ | with_reducible assumption | with_reducible refine q_alloc ?_ _ | with_reducible refine q_drew ?_ | with_reducible refine q_drewN _ ?_ | with_reducible refine q_setCell ?_ ?_ _ | (left; simp; done) | (right; simp; done) | (right; dsimp only; omega) | (left; dsimp only; omega)))))) HL.out HU.out (HID.out.below (by first | with_reducible exact J | with_reducible exact J.drew | with_reducible exact q_alloc J _ | with_reducible exact q_alloc J.drew _ | (exact by (repeat' (first | with_reducible exact Below.refl _ _ | with_reducible assumption | with_reducible refine q_alloc ?_ _ | with_reducible refine q_drew ?_ | with_reducible refine q_drewN _ ?_ | with_reducible refine q_setCell ?_ ?_ _ | (left; simp; done) | (right; simp; done) | (right; dsimp only; omega) | (left; dsimp only; omega))))))).mono ?_; rintro e w5 ⟨v5, m5, rfl, hi5, hj5, hf5, hg5, hb⟩; have J5 : Below wr.heap.size wr w5 := q_step (by first | with_reducible exact J | with_reducible exact J.drew | with_reducible exact q_alloc J _ | with_reducible exact q_alloc J.drew _ | (exact by (repeat' (first | with_reducible exact Below.refl _ _ | with_reducible assumption | with_reducible refine q_alloc ?_ _ | with_reducible refine q_drew ?_ | with_reducible refine q_drewN _ ?_ | with_reducible refine q_setCell ?_ ?_ _ | (left; simp; done) | (right; simp; done) | (right; dsimp only; omega) | (left; dsimp only; omega))))) hb; have I5 := Lib.hid hi5; have M5 := Lib.hid hj5; obtain ⟨A5, cap5, rfl, _⟩ := hi5; obtain ⟨B5, bcap5, rfl, _⟩ := hj5; have F5 : Hid (ApartR wr.heap.size (.slice A gs.length cap) (.slice A5 (stepL x is gs).length cap5)) := Lib.hid (apartR_of hf5 (Below.size (by first | with_reducible exact J | with_reducible exact J.drew | with_reducible exact q_alloc J _ | with_reducible exact q_alloc J.drew _ | (exact by (repeat' (first | with_reducible exact Below.refl _ _ | with_reducible assumption | with_reducible refine q_alloc ?_ _ | with_reducible refine q_drew ?_ | with_reducible refine q_drewN _ ?_ | with_reducible refine q_setCell ?_ ?_ _ | (left; simp; done) | (right; simp; done) | (right; dsimp only; omega) | (left; dsimp only; omega))))))); have G5 : Hid (ApartR wr.heap.size (.slice B gs.length bcap) (.slice B5 (stepL x is gs).length bcap5)) := Lib.hid (apartR_of hg5 (Below.size (by first | with_reducible exact J | with_reducible exact J.drew | with_reducible exact q_alloc J _ | with_reducible exact q_alloc J.drew _ | (exact by (repeat' (first | with_reducible exact Below.refl _ _ | with_reducible assumption | with_reducible refine q_alloc ?_ _ | with_reducible refine q_drew ?_ | with_reducible refine q_drewN _ ?_ | with_reducible refine q_setCell ?_ ?_ _ | (left; simp; done) | (right; simp; done) | (right; dsimp only; omega) | (left; dsimp only; omega))))))); (try (have hd5 : Blk w5 wr.heap.size [.slice none 0 0] := (by first | exact Blk.below (Blk.new rfl) hb | exact Blk.below (Blk.below (Blk.new rfl) (Below.refl _ _).drew) hb); have dc0 := hd5.cell 0 rfl; have df0 := hd5.froz 0 rfl; have dz := hd5.lt; have NF : Hid (NotIn wr.heap.size (.slice A5 (stepL x is gs).length cap5)) := Lib.hid (notIn_new HT.out hf5 (by simp)); have NG : Hid (NotIn wr.heap.size (.slice B5 (stepL x is gs).length bcap5)) := Lib.hid (notIn_new HM.out hg5 (by simp)))); clear hf5 hg5; replace J := J5; clear J5 hb))
        all_goals (go_wp2_with fail; go_meet; first
          | (have zz := hd5.lt
             refine ⟨_, A5, B5, cap5, bcap5, rfl, rfl, rfl, hd5.set 0 _ (by simp) rfl, Nat.le_refl _, ?_, ?_, F5.out, G5.out, by (repeat' (first | with_reducible exact Below.refl _ _ | with_reducible assumption | with_reducible refine q_alloc ?_ _ | with_reducible refine q_drew ?_ | with_reducible refine q_drewN _ ?_ | with_reducible refine q_setCell ?_ ?_ _ | (left; simp; done) | (right; simp; done) | (right; dsimp only; omega) | (left; dsimp only; omega)))⟩
             · first | exact isG_apart I5.out NF.out 0 _ | exact isG_apart (I5.out.below (Below.refl _ _).drew) NF.out 0 _
             · first | exact isG_apart M5.out NG.out 0 _ | exact isG_apart (M5.out.below (Below.refl _ _).drew) NG.out 0 _)
          | exact ⟨_, A5, B5, cap5, bcap5, rfl, rfl, rfl, Blk.new rfl, by have := J.size; simpa using this, I5.out.below (by (repeat' (first | with_reducible exact Below.refl _ _ | with_reducible assumption | with_reducible refine q_alloc ?_ _ | with_reducible refine q_drew ?_ | with_reducible refine q_drewN _ ?_ | with_reducible refine q_setCell ?_ ?_ _ | (left; simp; done) | (right; simp; done) | (right; dsimp only; omega) | (left; dsimp only; omega)))), M5.out.below (by (repeat' (first | with_reducible exact Below.refl _ _ | with_reducible assumption | with_reducible refine q_alloc ?_ _ | with_reducible refine q_drew ?_ | with_reducible refine q_drewN _ ?_ | with_reducible refine q_setCell ?_ ?_ _ | (left; simp; done) | (right; simp; done) | (right; dsimp only; omega) | (left; dsimp only; omega)))), F5.out, G5.out, by (repeat' (first | with_reducible exact Below.refl _ _ | with_reducible assumption | with_reducible refine q_alloc ?_ _ | with_reducible refine q_drew ?_ | with_reducible refine q_drewN _ ?_ | with_reducible refine q_setCell ?_ ?_ _ | (left; simp; done) | (right; simp; done) | (right; dsimp only; omega) | (left; dsimp only; omega)))⟩)
      case rest =>
        obtain ⟨d, A5, B5, cap5, bcap5, rfl, rfl, rfl, bd, hdl, i5, j5, f5, g5, J2⟩ := hcut
        obtain ⟨W2, rfl⟩ : ∃ W : World, W = wc := ⟨_, rfl⟩
        have hl5 := stepL_len x is gs HL.out
        have hu5 := stepL_uniq x is gs HU.out
        obtain ⟨gs5, hgs⟩ : ∃ gs5, stepL x is gs = gs5 := ⟨_, rfl⟩
        rw [hgs] at bd i5 j5 f5 g5 hl5 hu5 ⊢
        have HL5 := Lib.hid hl5
        have HU5 := Lib.hid hu5
        have I5 := Lib.hid i5
        have K5 := Lib.hid j5
        have F5 := Lib.hid f5
        have G5 := Lib.hid g5
        have BD := Lib.hid bd
        have d0 := bd.cell 0 rfl
        have zd := bd.lt
        have zcd : c < d := by omega
        have J3 := J2
        clear t0 t1 t2 t3 t4 t5 t6 t7 t8 t9 t10 s0 hgs hl5 hu5 i5 j5 f5 g5 bd J
        go_wp2_with fail
        refine calls_world (fun W => Below W2.heap.size W2 W) (by (repeat' (first | with_reducible exact Below.refl _ _ | with_reducible assumption | with_reducible refine q_alloc ?_ _ | with_reducible refine q_drew ?_ | with_reducible refine q_drewN _ ?_ | with_reducible refine q_setCell ?_ ?_ _ | (left; simp; done) | (right; simp; done) | (right; dsimp only; omega) | (left; dsimp only; omega)))) ?_
        intro W3 hq3
        refine (all_trueI _ _ gs5 _ (I5.out.below hq3) (K5.out.below hq3) (Nat.le_trans HL5.out (by decide))).mono ?_
        rintro e w4 ⟨rfl, hb4⟩
        have hq4 := q_step hq3 hb4
        have J4 := q_step J3 hq4
        have c4 := HC.out.below J4
        have e0 := c4.cell 0 rfl
        clear d0 hq3 hb4 c4
        go_wp2_with fail
        refine calls_world (fun W => Below w4.heap.size w4 W) (by (repeat' (first | with_reducible exact Below.refl _ _ | with_reducible assumption | with_reducible refine q_alloc ?_ _ | with_reducible refine q_drew ?_ | with_reducible refine q_drewN _ ?_ | with_reducible refine q_setCell ?_ ?_ _ | (left; simp; done) | (right; simp; done) | (right; dsimp only; omega) | (left; dsimp only; omega)))) ?_
        intro W5 hq5
        refine (all_trueI _ _ gs _ (HT.out.below (q_step J4 hq5)) (HM.out.below (q_step J4 hq5)) (Nat.le_trans HL.out (by decide))).mono ?_
        rintro e w6 ⟨rfl, hb6⟩
        have hq6 := q_step hq5 hb6
        have J6 := q_step J4 hq6
        have hq26 := q_step hq4 hq6
        have C6 := Lib.hid (HC.out.below J6)
        have R6 := Lib.hid (HR.out.below J6)
        have D6 := Lib.hid (BD.out.below hq26)
        have I6 := Lib.hid (I5.out.below hq26)
        have K6 := Lib.hid (K5.out.below hq26)
        have Q6 := Lib.hid (q_step HQ.out J6)
        have x0 := D6.out.cell 0 rfl
        clear e0
        have y0 := C6.out.cell 0 rfl
        have yf := C6.out.froz 0 rfl
        have hnc1 : NotIn c (.slice A5 gs5.length cap5) := F5.out.not HNI.out.1 zc
        have hnr1 : NotIn r (.slice A5 gs5.length cap5) := F5.out.not HNI.out.2.1 zr
        have hnc2 : NotIn c (.slice B5 gs5.length bcap5) := G5.out.not HNI.out.2.2.1 zc
        have hnr2 : NotIn r (.slice B5 gs5.length bcap5) := G5.out.not HNI.out.2.2.2 zr
        have HNN := Lib.hid (And.intro hnc1 (And.intro hnr1 (And.intro hnc2 hnr2)))
        clear hq5 hb6 hq6 J6 hq26 J4 hq4 J3 J2 hnc1 hnr1 hnc2 hnr2
        go_wp2_with fail
        go_roundw
        case rel => exact ⟨k + 1, A5, B5, cap5, bcap5, gs5, by omega, by go_num, rfl, HL5, HU5, Lib.hid (C6.out.set 0 _ (by simp) rfl), Lib.hid (R6.out.set_far (by dsimp only; omega) _), Lib.hid (isG_apart I6.out HNN.out.1 _ _), Lib.hid (isG_apart K6.out HNN.out.2.2.1 _ _), HNN, Lib.hid (q_setCell Q6.out (Or.inr (by dsimp only; omega)) _)⟩
        case measure => simp [intOf] <;> omega
    · obtain rfl : k = n := by omega
      have e0 := HC.out.cell 0 rfl
      have x0 := HR.out.cell 0 rfl
      have f0 := HR.out.froz 0 rfl
      go_wp2_with fail
      refine body_world (fun W => Below w.heap.size w W ∧ Blk W r [.slice A gs.length cap] ∧ IsG W (.slice A gs.length cap) gs ∧ IsG W (.slice B gs.length bcap) gs) ⟨q_setCell HQ.out (Or.inr (by dsimp only; omega)) _, HR.out.set 0 _ (by simp) rfl, isG_apart HT.out HNI.out.2.1 _ _, isG_apart HM.out HNI.out.2.2.2 _ _⟩ ?_
      intro W9 ⟨hq9, b9, i9, j9⟩
      clear e0 x0 f0
      have d0 := b9.cell 0 rfl
      exact bodyPost_ret (v := .tuple #[.agg #[.slice A gs.length cap], .slice B gs.length bcap, .bool true]) (by simp [results, Try.results12, go_sem, d0]) rfl ⟨_, _, gs, rfl, i9, j9, HU.out, HL.out, hq9⟩
end Go.Proofs.Ytmcndiljldbkcaa
/- Layer 38: PassivePlays' walk. -/
namespace Go.Proofs.Ytmcndiljldbkcaa
open Go Go.RowKit
set_option linter.unusedSimpArgs false
set_option linter.unusedVariables false
theorem ids_all {w : World} {xs : List Ac} (hg : greatB xs = false) (hid : ∀ x ∈ xs, ∃ is, IdsAt w x is) : xs.length ≤ 60 ∧ ∀ x ∈ xs, ∃ is, IdsOf w x is := by
  unfold greatB at hg
  rw [Bool.or_eq_false_iff] at hg
  have h2 := of_decide_eq_false hg.2
  have h60 : xs.length ≤ 60 := by omega
  refine ⟨h60, fun x hx => ?_⟩
  obtain ⟨is, h3, h4, h5⟩ := hid x hx
  have h6 := hg.1
  rw [List.take_of_length_le h60, List.any_eq_false] at h6
  have h7 := h6 x hx
  have h8 : ¬ 20 < x.il := by simpa using h7
  exact ⟨is, h3, h4, by omega, h5⟩
set_option maxRecDepth 100000 in
set_option maxHeartbeats 8000000 in
theorem lplays_any (A : Option Addr) (xcap : Nat) (xs : List Ac) (w : World) (hv : IsAct w (.slice A xs.length xcap) xs) (hid : ∀ x ∈ xs, ∃ is, IdsAt w x is) :
    Calls Try.prog 3 #[.slice A xs.length xcap] w fun e w' => e = .returned (.bool true) ∧ Below w.heap.size w w' := by
  have HV := Lib.hid hv
  have HI := Lib.hid hid
  obtain ⟨GB, hGB⟩ : ∃ GB, greatB xs = GB := ⟨_, rfl⟩
  have HGB := Lib.hid hGB
  clear hGB hv hid
  obtain ⟨n, hn⟩ : ∃ n, xs.length = n := ⟨_, rfl⟩
  have HN := Lib.hid hn
  rw [hn] at HV ⊢
  clear hn
  go_enter Try.func3, Try.ntmps3
  go_wp2_with fail
  refine calls_world (fun W => Below w.heap.size w W) (by (repeat' (first | with_reducible exact Below.refl _ _ | with_reducible assumption | with_reducible refine q_alloc ?_ _ | with_reducible refine q_drew ?_ | with_reducible refine q_drewN _ ?_ | with_reducible refine q_setCell ?_ ?_ _ | (left; simp; done) | (right; simp; done) | (right; dsimp only; omega) | (left; dsimp only; omega)))) ?_
  intro W1 hq1
  refine (great_any _ xs _ (HV.out.below hq1)).mono ?_
  rintro e w2 ⟨rfl, hb⟩
  rw [HGB.out]
  have hq2 := q_step hq1 hb
  clear hq1 hb
  cases GB with
  | true =>
    go_wp2_with fail
    refine (awake38 _).mono ?_
    rintro e w3 ⟨rfl, hb⟩
    go_wp2_with fail
    go_returns
    exact ⟨by first | rfl | (simp; done), q_step hq2 hb⟩
  | false =>
    obtain ⟨h60, hids⟩ := ids_all HGB.out HI.out
    have HK := Lib.hid hids
    clear hids
    go_wp2_with fail
    refine calls_world (fun W => Below w.heap.size w W) (by (repeat' (first | with_reducible exact Below.refl _ _ | with_reducible assumption | with_reducible refine q_alloc ?_ _ | with_reducible refine q_drew ?_ | with_reducible refine q_drewN _ ?_ | with_reducible refine q_setCell ?_ ?_ _ | (left; simp; done) | (right; simp; done) | (right; dsimp only; omega) | (left; dsimp only; omega)))) ?_
    intro W3 hq3
    refine (played_any _ xs _ (HV.out.below hq3) h60 (fun x hx => by obtain ⟨is, h⟩ := HK.out x hx; exact ⟨is, h.below hq3⟩)).mono ?_
    rintro e w4 ⟨v4, m4, gs, rfl, hi, hj, _, _, hb⟩
    obtain ⟨A4, cap4, rfl, _⟩ := hi
    obtain ⟨B4, bcap4, rfl, _⟩ := hj
    have hq4 := q_step hq3 hb
    clear hq3 hb hq2
    go_wp2_with fail
    refine calls_world (fun W => Below w.heap.size w W) (by (repeat' (first | with_reducible exact Below.refl _ _ | with_reducible assumption | with_reducible refine q_alloc ?_ _ | with_reducible refine q_drew ?_ | with_reducible refine q_drewN _ ?_ | with_reducible refine q_setCell ?_ ?_ _ | (left; simp; done) | (right; simp; done) | (right; dsimp only; omega) | (left; dsimp only; omega)))) ?_
    intro W5 hq5
    refine (awake38 _).mono ?_
    rintro e w6 ⟨rfl, hb⟩
    have hq6 := q_step hq5 hb
    clear hq4 hq5 hb
    go_wp2_with fail
    go_returns
    exact ⟨by first | rfl | (simp; done), hq6⟩
end Go.Proofs.Ytmcndiljldbkcaa
