/- Layer 38: Ps29, Ps30, Ps31 put together. -/
import Derived.Test.YtmcndiljldbkcaaPs24
import Derived.Test.YtmcndiljldbkcaaPs7
import Derived.Test.YtmcndiljldbkcaaInts
import Derived.Test.YtmcndiljldbkcaaPs3
/- Layer 38: which grabs a drop takes away, in the program. -/
namespace Go.Proofs.Ytmcndiljldbkcaa
open Go Go.RowKit
set_option linter.unusedSimpArgs false
set_option linter.unusedVariables false
set_option maxRecDepth 100000 in
set_option maxHeartbeats 8000000 in
theorem dropc_any (c1 c2 c3 c4 c5 : Nat) (cl id : Int) (b : Bool) (c m : Int) (x : G) (w : World) (h1 : w.cell? ⟨c1, 0, none⟩ = some (i6 cl)) (h2 : w.cell? ⟨c2, 0, none⟩ = some (u3 id)) (h3 : w.cell? ⟨c3, 0, none⟩ = some (.bool b)) (h4 : w.cell? ⟨c4, 0, none⟩ = some (i6 c)) (h5 : w.cell? ⟨c5, 0, none⟩ = some (i6 m)) :
    Calls Try.prog 47 #[gV x, .pointer (some ⟨c1, 0, none⟩), .pointer (some ⟨c2, 0, none⟩), .pointer (some ⟨c3, 0, none⟩), .pointer (some ⟨c4, 0, none⟩), .pointer (some ⟨c5, 0, none⟩)] w fun e w' => e = .returned (.bool (dropB cl id b c m x)) ∧ Below w.heap.size w w' := by
  obtain ⟨b0, b1, b2, b3, b4, b5, b6, b7, b8⟩ := x
  unfold dropB
  dsimp only
  have z1 := block_lt_of_cell h1
  have z2 := block_lt_of_cell h2
  have z3 := block_lt_of_cell h3
  have z4 := block_lt_of_cell h4
  have z5 := block_lt_of_cell h5
  dsimp only at z1 z2 z3 z4 z5
  by_cases k0 : b0 = cl
  · subst k0
    by_cases k1 : b1 = id
    · subst k1
      cases b2 <;> cases b
      all_goals try (
        go_enter Try.func47, Try.ntmps47
        go_wp2_with fail
        go_returns
        exact ⟨by first | rfl | (simp; done) | (simp [*]; done), by (repeat' (first | with_reducible exact Below.refl _ _ | with_reducible assumption | with_reducible refine q_alloc ?_ _ | with_reducible refine q_drew ?_ | with_reducible refine q_drewN _ ?_ | with_reducible refine q_setCell ?_ ?_ _ | (left; simp; done) | (right; simp; done) | (right; dsimp only; omega) | (left; dsimp only; omega)))⟩
        done)
      all_goals
        by_cases k2 : c = 0
        · subst k2
          by_cases k4 : m = 32768
          · subst k4
            go_enter Try.func47, Try.ntmps47
            go_wp2_with fail
            go_returns
            exact ⟨by first | rfl | (simp; done) | (simp [*]; done), by (repeat' (first | with_reducible exact Below.refl _ _ | with_reducible assumption | with_reducible refine q_alloc ?_ _ | with_reducible refine q_drew ?_ | with_reducible refine q_drewN _ ?_ | with_reducible refine q_setCell ?_ ?_ _ | (left; simp; done) | (right; simp; done) | (right; dsimp only; omega) | (left; dsimp only; omega)))⟩
          · have q4 : (m == 32768) = false := by simpa using k4
            by_cases k5 : b4 = m
            · subst k5
              go_enter Try.func47, Try.ntmps47
              go_wp2_with fail
              go_returns
              exact ⟨by first | rfl | (simp; done) | (simp [*]; done), by (repeat' (first | with_reducible exact Below.refl _ _ | with_reducible assumption | with_reducible refine q_alloc ?_ _ | with_reducible refine q_drew ?_ | with_reducible refine q_drewN _ ?_ | with_reducible refine q_setCell ?_ ?_ _ | (left; simp; done) | (right; simp; done) | (right; dsimp only; omega) | (left; dsimp only; omega)))⟩
            · have q5 : (b4 == m) = false := by simpa using k5
              go_enter Try.func47, Try.ntmps47
              go_wp2_with fail
              go_returns
              exact ⟨by first | rfl | (simp; done) | (simp [*]; done), by (repeat' (first | with_reducible exact Below.refl _ _ | with_reducible assumption | with_reducible refine q_alloc ?_ _ | with_reducible refine q_drew ?_ | with_reducible refine q_drewN _ ?_ | with_reducible refine q_setCell ?_ ?_ _ | (left; simp; done) | (right; simp; done) | (right; dsimp only; omega) | (left; dsimp only; omega)))⟩
        · have q2 : (c == 0) = false := by simpa using k2
          by_cases k3 : b3 = c
          · subst k3
            by_cases k4 : m = 32768
            · subst k4
              go_enter Try.func47, Try.ntmps47
              go_wp2_with fail
              go_returns
              exact ⟨by first | rfl | (simp; done) | (simp [*]; done), by (repeat' (first | with_reducible exact Below.refl _ _ | with_reducible assumption | with_reducible refine q_alloc ?_ _ | with_reducible refine q_drew ?_ | with_reducible refine q_drewN _ ?_ | with_reducible refine q_setCell ?_ ?_ _ | (left; simp; done) | (right; simp; done) | (right; dsimp only; omega) | (left; dsimp only; omega)))⟩
            · have q4 : (m == 32768) = false := by simpa using k4
              by_cases k5 : b4 = m
              · subst k5
                go_enter Try.func47, Try.ntmps47
                go_wp2_with fail
                go_returns
                exact ⟨by first | rfl | (simp; done) | (simp [*]; done), by (repeat' (first | with_reducible exact Below.refl _ _ | with_reducible assumption | with_reducible refine q_alloc ?_ _ | with_reducible refine q_drew ?_ | with_reducible refine q_drewN _ ?_ | with_reducible refine q_setCell ?_ ?_ _ | (left; simp; done) | (right; simp; done) | (right; dsimp only; omega) | (left; dsimp only; omega)))⟩
              · have q5 : (b4 == m) = false := by simpa using k5
                go_enter Try.func47, Try.ntmps47
                go_wp2_with fail
                go_returns
                exact ⟨by first | rfl | (simp; done) | (simp [*]; done), by (repeat' (first | with_reducible exact Below.refl _ _ | with_reducible assumption | with_reducible refine q_alloc ?_ _ | with_reducible refine q_drew ?_ | with_reducible refine q_drewN _ ?_ | with_reducible refine q_setCell ?_ ?_ _ | (left; simp; done) | (right; simp; done) | (right; dsimp only; omega) | (left; dsimp only; omega)))⟩
          · have q3 : (b3 == c) = false := by simpa using k3
            go_enter Try.func47, Try.ntmps47
            go_wp2_with fail
            go_returns
            exact ⟨by first | rfl | (simp; done) | (simp [*]; done), by (repeat' (first | with_reducible exact Below.refl _ _ | with_reducible assumption | with_reducible refine q_alloc ?_ _ | with_reducible refine q_drew ?_ | with_reducible refine q_drewN _ ?_ | with_reducible refine q_setCell ?_ ?_ _ | (left; simp; done) | (right; simp; done) | (right; dsimp only; omega) | (left; dsimp only; omega)))⟩
    · have q1 : (b1 == id) = false := by simpa using k1
      go_enter Try.func47, Try.ntmps47
      go_wp2_with fail
      go_returns
      exact ⟨by first | rfl | (simp; done) | (simp [*]; done), by (repeat' (first | with_reducible exact Below.refl _ _ | with_reducible assumption | with_reducible refine q_alloc ?_ _ | with_reducible refine q_drew ?_ | with_reducible refine q_drewN _ ?_ | with_reducible refine q_setCell ?_ ?_ _ | (left; simp; done) | (right; simp; done) | (right; dsimp only; omega) | (left; dsimp only; omega)))⟩
  · have q0 : (b0 == cl) = false := by simpa using k0
    go_enter Try.func47, Try.ntmps47
    go_wp2_with fail
    go_returns
    exact ⟨by first | rfl | (simp; done) | (simp [*]; done), by (repeat' (first | with_reducible exact Below.refl _ _ | with_reducible assumption | with_reducible refine q_alloc ?_ _ | with_reducible refine q_drew ?_ | with_reducible refine q_drewN _ ?_ | with_reducible refine q_setCell ?_ ?_ _ | (left; simp; done) | (right; simp; done) | (right; dsimp only; omega) | (left; dsimp only; omega)))⟩
end Go.Proofs.Ytmcndiljldbkcaa
/- Layer 38: is a number among those; which grabs a leave takes away. -/
namespace Go.Proofs.Ytmcndiljldbkcaa
open Go Go.RowKit
set_option linter.unusedSimpArgs false
set_option linter.unusedVariables false
theorem ints_lower {w w' : World} {k : IntKind} {v : Value} {us : List Int} (h : IsInts w k v us) (hb : Below w.heap.size w w') : IsInts w' k v us := by
  rcases h with ⟨a, cap, rfl, rfl⟩ | ⟨b, off, cap, rfl, h0, h1, h2, h3, h4⟩
  · exact Or.inl ⟨_, _, rfl, rfl⟩
  · exact Or.inr ⟨b, off, cap, rfl, h0, h1, h2, Nat.lt_of_lt_of_le h3 hb.size, fun j hj => cell_below hb (h4 j hj)⟩
def UIdx (is : List Int) (u r : Int) : Prop := decide (0 ≤ r) = is.any (fun i => decide (i = u))
theorem uidx_step {is : List Int} {u y : Int} {k : Nat} (h : (is.take k).any (fun i => decide (i = u)) = false) (hy : is[k]? = some y) (hn : (u == y) = false) : (is.take (k + 1)).any (fun i => decide (i = u)) = false := by
  rw [List.take_add_one, hy]
  simp only [List.any_append, h, Option.toList_some, List.any_cons, List.any_nil, Bool.or_false, Bool.false_or]
  have hne : ¬ (u = y) := by simpa using hn
  exact decide_eq_false (fun e => hne e.symm)
set_option maxRecDepth 100000 in
set_option maxHeartbeats 4000000 in
theorem sindex_any (ia : Option Addr) (n cap : Nat) (is : List Int) (u : Int) (w : World) (hs : IsInts w .u32 (.slice ia n cap) is) (hn : is.length = n) (hl : n ≤ 1000) :
    Calls Try.prog 45 #[.slice ia n cap, u3 u] w fun e w' => ∃ r : Int, e = .returned (i6 r) ∧ UIdx is u r ∧ Below w.heap.size w w' := by
  have HS := Lib.hid hs
  have HN := Lib.hid hn
  clear hs hn
  go_enter Try.func45, Try.ntmps45
  go_wp2_with fail
  go_loopw [8] (fun i wr => ∃ k : Nat, k ≤ n ∧ i = .int .i64 k ∧ Hid ((is.take k).any (fun i => decide (i = u)) = false) ∧ Below w.heap.size w wr)
    (fun i _ => n - (intOf i).toNat)
  case atStart => exact ⟨0, by omega, rfl, Lib.hid (by simp), Below.refl _ _⟩
  case round =>
    obtain ⟨k, hk, rfl, hno, hq⟩ := hrel
    by_cases hlt : k < n
    · obtain ⟨b, off, rfl, hcs⟩ := cell_u3 HS.out HN.out (by omega)
      obtain ⟨y, hx⟩ : ∃ y, is[k]? = some y := ⟨_, List.getElem?_eq_getElem (by rw [HN.out]; exact hlt)⟩
      have y0 := cell_below hq (hcs k y hx)
      have HX := Lib.hid hx
      have hki : (k : Int) < (n : Int) := by omega
      clear hcs hx
      cases hp : (u == y) with
      | false =>
        have HM := Lib.hid (uidx_step hno.out HX.out hp)
        clear hno
        go_wp2_with fail
        go_roundw
        case rel => exact ⟨k + 1, by omega, by go_num, HM, by (repeat' (first | with_reducible exact Below.refl _ _ | with_reducible assumption | with_reducible refine q_alloc ?_ _ | with_reducible refine q_drew ?_ | with_reducible refine q_drewN _ ?_ | with_reducible refine q_setCell ?_ ?_ _ | (left; simp; done) | (right; simp; done) | (right; dsimp only; omega) | (left; dsimp only; omega)))⟩
        case measure => simp [intOf] <;> omega
      | true =>
        have HR : Hid (UIdx is u (k : Int)) := Lib.hid (by
          unfold UIdx
          rw [List.any_eq_true.2 ⟨y, List.mem_of_getElem? HX.out, (by have e : u = y := (by simpa using hp); subst e; simp)⟩]
          simp)
        clear hno
        go_wp2_with fail
        go_returns
        exact ⟨_, rfl, HR.out, by (repeat' (first | with_reducible exact Below.refl _ _ | with_reducible assumption | with_reducible refine q_alloc ?_ _ | with_reducible refine q_drew ?_ | with_reducible refine q_drewN _ ?_ | with_reducible refine q_setCell ?_ ?_ _ | (left; simp; done) | (right; simp; done) | (right; dsimp only; omega) | (left; dsimp only; omega)))⟩
    · obtain rfl : k = n := by omega
      have HR : Hid (UIdx is u (-1)) := Lib.hid (by
        have h := hno.out
        rw [← HN.out, List.take_length] at h
        unfold UIdx
        rw [h]
        rfl)
      clear hno
      go_wp2_with fail
      go_returns
      exact ⟨_, rfl, HR.out, by (repeat' (first | with_reducible exact Below.refl _ _ | with_reducible assumption | with_reducible refine q_alloc ?_ _ | with_reducible refine q_drew ?_ | with_reducible refine q_drewN _ ?_ | with_reducible refine q_setCell ?_ ?_ _ | (left; simp; done) | (right; simp; done) | (right; dsimp only; omega) | (left; dsimp only; omega)))⟩
set_option maxRecDepth 100000 in
theorem scontains_any (ia : Option Addr) (n cap : Nat) (is : List Int) (u : Int) (w : World) (hs : IsInts w .u32 (.slice ia n cap) is) (hn : is.length = n) (hl : n ≤ 1000) :
    Calls Try.prog 38 #[.slice ia n cap, u3 u] w fun e w' => e = .returned (.bool (is.any (fun i => decide (i = u)))) ∧ Below w.heap.size w w' := by
  have HS := Lib.hid hs
  have HN := Lib.hid hn
  clear hs hn
  go_enter Try.func38, Try.ntmps38
  go_wp2_with fail
  refine (sindex_any ia n cap is u _ HS.out HN.out hl).mono ?_
  rintro e w1 ⟨r, rfl, hr, hb⟩
  have HR := Lib.hid hr
  clear hr
  go_wp2_with fail
  go_returns
  exact ⟨by rw [← HR.out] <;> first | rfl | simp, hb⟩
set_option maxRecDepth 100000 in
set_option maxHeartbeats 4000000 in
theorem leavec_any (c1 c2 : Nat) (cl : Int) (ia : Option Addr) (n cap : Nat) (is : List Int) (x : G) (w : World) (h1 : w.cell? ⟨c1, 0, none⟩ = some (i6 cl)) (h2 : w.cell? ⟨c2, 0, none⟩ = some (.slice ia n cap)) (hs : IsInts w .u32 (.slice ia n cap) is) (hn : is.length = n) (hl : n ≤ 1000) :
    Calls Try.prog 37 #[gV x, .pointer (some ⟨c1, 0, none⟩), .pointer (some ⟨c2, 0, none⟩)] w fun e w' => e = .returned (.bool (leaveB cl is x)) ∧ Below w.heap.size w w' := by
  obtain ⟨b0, b1, b2, b3, b4, b5, b6, b7, b8⟩ := x
  have HS := Lib.hid hs
  have HN := Lib.hid hn
  clear hs hn
  unfold leaveB
  dsimp only
  have z1 := block_lt_of_cell h1
  have z2 := block_lt_of_cell h2
  dsimp only at z1 z2
  by_cases k0 : b0 = cl
  · subst k0
    go_enter Try.func37, Try.ntmps37
    go_wp2_with fail
    go_returns
    exact ⟨by first | rfl | (simp; done) | (simp [*]; done), by (repeat' (first | with_reducible exact Below.refl _ _ | with_reducible assumption | with_reducible refine q_alloc ?_ _ | with_reducible refine q_drew ?_ | with_reducible refine q_drewN _ ?_ | with_reducible refine q_setCell ?_ ?_ _ | (left; simp; done) | (right; simp; done) | (right; dsimp only; omega) | (left; dsimp only; omega)))⟩
  · have q0 : (b0 == cl) = false := by simpa using k0
    have Q0 : Hid (decide (b0 = cl) = false) := Lib.hid (by simpa using k0)
    clear k0
    go_enter Try.func37, Try.ntmps37
    go_wp2_with fail
    refine calls_world (fun W => Below w.heap.size w W) (by (repeat' (first | with_reducible exact Below.refl _ _ | with_reducible assumption | with_reducible refine q_alloc ?_ _ | with_reducible refine q_drew ?_ | with_reducible refine q_drewN _ ?_ | with_reducible refine q_setCell ?_ ?_ _ | (left; simp; done) | (right; simp; done) | (right; dsimp only; omega) | (left; dsimp only; omega)))) ?_
    intro W1 hq1
    refine (scontains_any ia n cap is b1 _ (ints_lower HS.out hq1) HN.out hl).mono ?_
    rintro e w1 ⟨rfl, hb⟩
    have hq2 := q_step hq1 hb
    clear hq1 hb
    go_wp2_with fail
    go_returns
    exact ⟨by rw [Q0.out, Bool.false_or]; first | rfl | (simp; done), by (repeat' (first | with_reducible exact Below.refl _ _ | with_reducible assumption | with_reducible refine q_alloc ?_ _ | with_reducible refine q_drew ?_ | with_reducible refine q_drewN _ ?_ | with_reducible refine q_setCell ?_ ?_ _ | (left; simp; done) | (right; simp; done) | (right; dsimp only; omega) | (left; dsimp only; omega)))⟩
end Go.Proofs.Ytmcndiljldbkcaa
/- Layer 38: the first grab that a drop or a leave takes. -/
namespace Go.Proofs.Ytmcndiljldbkcaa
open Go Go.RowKit
set_option linter.unusedSimpArgs false
set_option linter.unusedVariables false
set_option maxRecDepth 100000 in
set_option maxHeartbeats 4000000 in
theorem index_d (c1 c2 c3 c4 c5 : Nat) (p : G → Bool) (gs : List G) (v : Value) (w : World) (hv : IsG w v gs) (hl : gs.length ≤ 1000)
    (hF : ∀ W x, Below w.heap.size w W → Calls Try.prog 47 #[gV x, .pointer (some ⟨c1, 0, none⟩), .pointer (some ⟨c2, 0, none⟩), .pointer (some ⟨c3, 0, none⟩), .pointer (some ⟨c4, 0, none⟩), .pointer (some ⟨c5, 0, none⟩)] W fun e w' => e = .returned (.bool (p x)) ∧ Below W.heap.size W w') :
    Calls Try.prog 27 #[v, .func (.func 47) #[] #[.pointer (some ⟨c1, 0, none⟩), .pointer (some ⟨c2, 0, none⟩), .pointer (some ⟨c3, 0, none⟩), .pointer (some ⟨c4, 0, none⟩), .pointer (some ⟨c5, 0, none⟩)]] w fun e w' => ∃ r : Int, e = .returned (i6 r) ∧ IdxIs p gs r ∧ Below w.heap.size w w' := by
  obtain ⟨A, cap, rfl, hf⟩ := hv
  have HF := Lib.hid hf
  have HC := Lib.hid hF
  clear hf hF
  obtain ⟨n, hn⟩ : ∃ n, gs.length = n := ⟨_, rfl⟩
  rw [hn] at HF hl ⊢
  have HN := Lib.hid hn
  clear hn
  go_enter Try.func27, Try.ntmps27
  go_wp2_with fail
  go_loopw [8] (fun i wr => ∃ k : Nat, k ≤ n ∧ i = .int .i64 k ∧ Hid (∀ (j : Nat) (y : G), j < k → gs[j]? = some y → p y = false) ∧ Below w.heap.size w wr)
    (fun i _ => n - (intOf i).toNat)
  case atStart => exact ⟨0, by omega, rfl, Lib.hid (fun j y hj => by omega), Below.refl _ _⟩
  case round =>
    obtain ⟨k, hk, rfl, hno, hq⟩ := hrel
    by_cases hlt : k < n
    · obtain ⟨b, off, rfl, hb, hlay⟩ := HF.out (by omega)
      obtain ⟨x, hx⟩ : ∃ x, gs[k]? = some x := ⟨_, List.getElem?_eq_getElem (by rw [HN.out]; exact hlt)⟩
      have hlx := fun j u hj => cell_below hq (hlay k x hx j u hj)
      have d0 := hlx 0 _ rfl
      rw [Nat.add_zero] at d0
      have d1 := hlx 1 _ rfl
      have d2 := hlx 2 _ rfl
      have d3 := hlx 3 _ rfl
      have d4 := hlx 4 _ rfl
      have d5 := hlx 5 _ rfl
      have d6 := hlx 6 _ rfl
      have d7 := hlx 7 _ rfl
      have d8 := hlx 8 _ rfl
      have HX := Lib.hid hx
      have hki : (k : Int) < (n : Int) := by omega
      clear hlx hlay hx
      go_wp2_with fail
      refine (HC.out _ x hq).mono ?_
      rintro e w1 ⟨rfl, hb1⟩
      have hq1 := q_step hq hb1
      clear d0 d1 d2 d3 d4 d5 d6 d7 d8 hq hb1
      cases hp : p x with
      | false =>
        have HM := Lib.hid (no_more hno.out HX.out hp)
        clear hno hp
        go_wp2_with fail
        go_roundw
        case rel => exact ⟨k + 1, by omega, by go_num, HM, hq1⟩
        case measure => simp [intOf] <;> omega
      | true =>
        have HR : Hid (IdxIs p gs (k : Int)) := Lib.hid (Or.inr ⟨k, x, rfl, HX.out, hp, hno.out⟩)
        clear hno hp
        go_wp2_with fail
        go_returns
        exact ⟨_, rfl, HR.out, hq1⟩
    · obtain rfl : k = n := by omega
      have HR : Hid (IdxIs p gs (-1)) := Lib.hid (Or.inl ⟨rfl, fun x hx => by
        obtain ⟨j, hj, e⟩ := List.getElem_of_mem hx
        exact hno.out j x (by rw [← HN.out]; exact hj) (by rw [List.getElem?_eq_getElem hj, e])⟩)
      clear hno
      go_wp2_with fail
      go_returns
      exact ⟨_, rfl, HR.out, hq⟩
set_option maxRecDepth 100000 in
set_option maxHeartbeats 4000000 in
theorem index_l (c1 c2 : Nat) (p : G → Bool) (gs : List G) (v : Value) (w : World) (hv : IsG w v gs) (hl : gs.length ≤ 1000)
    (hF : ∀ W x, Below w.heap.size w W → Calls Try.prog 37 #[gV x, .pointer (some ⟨c1, 0, none⟩), .pointer (some ⟨c2, 0, none⟩)] W fun e w' => e = .returned (.bool (p x)) ∧ Below W.heap.size W w') :
    Calls Try.prog 27 #[v, .func (.func 37) #[] #[.pointer (some ⟨c1, 0, none⟩), .pointer (some ⟨c2, 0, none⟩)]] w fun e w' => ∃ r : Int, e = .returned (i6 r) ∧ IdxIs p gs r ∧ Below w.heap.size w w' := by
  obtain ⟨A, cap, rfl, hf⟩ := hv
  have HF := Lib.hid hf
  have HC := Lib.hid hF
  clear hf hF
  obtain ⟨n, hn⟩ : ∃ n, gs.length = n := ⟨_, rfl⟩
  rw [hn] at HF hl ⊢
  have HN := Lib.hid hn
  clear hn
  go_enter Try.func27, Try.ntmps27
  go_wp2_with fail
  go_loopw [8] (fun i wr => ∃ k : Nat, k ≤ n ∧ i = .int .i64 k ∧ Hid (∀ (j : Nat) (y : G), j < k → gs[j]? = some y → p y = false) ∧ Below w.heap.size w wr)
    (fun i _ => n - (intOf i).toNat)
  case atStart => exact ⟨0, by omega, rfl, Lib.hid (fun j y hj => by omega), Below.refl _ _⟩
  case round =>
    obtain ⟨k, hk, rfl, hno, hq⟩ := hrel
    by_cases hlt : k < n
    · obtain ⟨b, off, rfl, hb, hlay⟩ := HF.out (by omega)
      obtain ⟨x, hx⟩ : ∃ x, gs[k]? = some x := ⟨_, List.getElem?_eq_getElem (by rw [HN.out]; exact hlt)⟩
      have hlx := fun j u hj => cell_below hq (hlay k x hx j u hj)
      have d0 := hlx 0 _ rfl
      rw [Nat.add_zero] at d0
      have d1 := hlx 1 _ rfl
      have d2 := hlx 2 _ rfl
      have d3 := hlx 3 _ rfl
      have d4 := hlx 4 _ rfl
      have d5 := hlx 5 _ rfl
      have d6 := hlx 6 _ rfl
      have d7 := hlx 7 _ rfl
      have d8 := hlx 8 _ rfl
      have HX := Lib.hid hx
      have hki : (k : Int) < (n : Int) := by omega
      clear hlx hlay hx
      go_wp2_with fail
      refine (HC.out _ x hq).mono ?_
      rintro e w1 ⟨rfl, hb1⟩
      have hq1 := q_step hq hb1
      clear d0 d1 d2 d3 d4 d5 d6 d7 d8 hq hb1
      cases hp : p x with
      | false =>
        have HM := Lib.hid (no_more hno.out HX.out hp)
        clear hno hp
        go_wp2_with fail
        go_roundw
        case rel => exact ⟨k + 1, by omega, by go_num, HM, hq1⟩
        case measure => simp [intOf] <;> omega
      | true =>
        have HR : Hid (IdxIs p gs (k : Int)) := Lib.hid (Or.inr ⟨k, x, rfl, HX.out, hp, hno.out⟩)
        clear hno hp
        go_wp2_with fail
        go_returns
        exact ⟨_, rfl, HR.out, hq1⟩
    · obtain rfl : k = n := by omega
      have HR : Hid (IdxIs p gs (-1)) := Lib.hid (Or.inl ⟨rfl, fun x hx => by
        obtain ⟨j, hj, e⟩ := List.getElem_of_mem hx
        exact hno.out j x (by rw [← HN.out]; exact hj) (by rw [List.getElem?_eq_getElem hj, e])⟩)
      clear hno
      go_wp2_with fail
      go_returns
      exact ⟨_, rfl, HR.out, hq⟩
end Go.Proofs.Ytmcndiljldbkcaa
