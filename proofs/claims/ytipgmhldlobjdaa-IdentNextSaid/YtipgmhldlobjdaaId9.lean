/- Layer 7: the walk of IdentNext: ids asked for, one behind the other. -/
import Derived.Test.YtipgmhldlobjdaaId8
namespace Go.Proofs.Ytipgmhldlobjdaa
open Go Go.RowKit Go.Maps
set_option linter.unusedSimpArgs false
set_option linter.unusedVariables false

theorem freshRes_least {base g : Int} {us : List Int} (h : Least base us g) (hb : 0 ≤ base) : freshRes base us = .tuple #[u3 g, .bool true] := by
  unfold freshRes
  rw [freshOf_least h, decide_eq_true (by have := h.1; omega)]
theorem fresh_own' (c : Int) (us : List Int) (v : Value) (B : Nat) (w : World) (g : Int) (hcl : 1 ≤ c) (hcl' : c ≤ 8) (hreach : us.length ≤ 1000) (hwz : ∀ n ∈ us, 0 ≤ n ∧ n < 4294967296)
    (hown : w.ownsRow B 23 1 v us.length (us.map u3)) (hl : Least (c * 1048576) us g) :
    Calls Try.prog 15 #[i6 c, v] w fun e w' => e = .returned (.tuple #[u3 g, .bool true]) ∧ Below w.heap.size w w' :=
  freshRes_least hl (by omega) ▸ fresh_own c us v B w hcl hcl' hreach hwz hown

/-- What the outer loop keeps: the list, its last id. -/
structure Outer (c : Int) (A : List Int) (lst : Int) : Prop where
  last : lst = 0 ∨ c * 1048576 < lst
  all : ∀ x, c * 1048576 < x → x ≤ lst → x ∈ A
  fits : ∀ n ∈ A, 0 ≤ n ∧ n < 4294967296
theorem Outer.next {c lst g : Int} {A : List Int} (h : Outer c A lst) (h1 : 1 ≤ c) (h2 : c ≤ 8) (hl : Least (c * 1048576) A g) : lst < g ∧ 0 ≤ lst ∧ Outer c (A ++ [g]) g := by
  have hlt : lst < g := by
    rcases h.last with h0 | h0
    · have := hl.1; omega
    · by_cases q : lst < g
      · exact q
      · exact absurd (h.all g hl.1 (by omega)) hl.2.2.1
  refine ⟨hlt, by rcases h.last with h0 | h0 <;> omega, .inr hl.1, fun x hx1 hx2 => ?_, fun n hn => ?_⟩
  · rw [List.mem_append]
    by_cases e : x = g
    · exact .inr (by simp [e])
    · exact .inl (hl.2.2.2 x hx1 (by omega))
  · rcases List.mem_append.1 hn with q | q
    · exact h.fits n q
    · have : n = g := by simpa using q
      have := hl.1
      have := hl.2.1
      omega

set_option maxRecDepth 100000 in
set_option maxHeartbeats 4000000 in
theorem lnext_any (c0 n0 d0 : Int) (us : List Int) (a : Option Addr) (len cap : Nat) (w : World) (b1 : 0 ≤ c0) (b2 : c0 < 256) (b3 : 0 ≤ n0) (b4 : n0 < 256) (b5 : 0 ≤ d0) (b6 : d0 < 256)
    (hlen : us.length = len) (hv : IsInts w .u32 (.slice a len cap) us) (hnone : a = none → cap = 0) (hwz : ∀ n ∈ us, 0 ≤ n ∧ n < 4294967296) :
    Calls Try.prog 6 #[.int .u8 c0, .slice a len cap, .int .u8 n0, .int .u8 d0] w fun e w' => e = .returned (.bool true) ∧ Below w.heap.size w w' := by
  obtain ⟨i0, hi, hz0, hz1, hz2⟩ := info_parts info_id
  have HV := Lib.hid hv
  have HW := Lib.hid hwz
  clear hv hwz
  by_cases hbig : 100 < len
  · go_enter Try.func6, Try.ntmps6
    go_wp2_with fail
    refine (awake_any _).mono ?_
    rintro e w1 ⟨rfl, hq⟩
    go_wp2_with fail
    go_returns
    exact ⟨by first | rfl | (simp; done), hq⟩
  have f1 : c0.tmod 8 = c0 % 8 := by rw [Int.tmod_eq_emod_of_nonneg b1]
  have f2 : d0.tmod 8 = d0 % 8 := by rw [Int.tmod_eq_emod_of_nonneg b5]
  have f3 : n0.tmod 51 = n0 % 51 := by rw [Int.tmod_eq_emod_of_nonneg b3]
  have f4 : IntKind.u8.wrap (c0 % 8) = c0 % 8 := by simp only [IntKind.wrap, IntKind.bits, IntKind.signed]; simp; omega
  have f5 : IntKind.u8.wrap (d0 % 8) = d0 % 8 := by simp only [IntKind.wrap, IntKind.bits, IntKind.signed]; simp; omega
  have f6 : IntKind.u8.wrap (n0 % 51) = n0 % 51 := by simp only [IntKind.wrap, IntKind.bits, IntKind.signed]; simp; omega
  have f7 : IntKind.i64.wrap (c0 % 8) = c0 % 8 := i64_in (by omega) (by omega)
  have f8 : IntKind.i64.wrap (d0 % 8) = d0 % 8 := i64_in (by omega) (by omega)
  have f9 : IntKind.i64.wrap (n0 % 51) = n0 % 51 := i64_in (by omega) (by omega)
  obtain ⟨c, hc⟩ : ∃ c, 1 + c0 % 8 = c := ⟨_, rfl⟩
  obtain ⟨d, hd⟩ : ∃ d, 1 + d0 % 8 = d := ⟨_, rfl⟩
  obtain ⟨R, hR⟩ : ∃ R : Nat, n0 % 51 = (R : Int) := ⟨(n0 % 51).toNat, by omega⟩
  have f10 : IntKind.i64.wrap (1 + c0 % 8) = c := by rw [hc]; exact i64_in (by omega) (by omega)
  have f11 : IntKind.i64.wrap (1 + d0 % 8) = d := by rw [hd]; exact i64_in (by omega) (by omega)
  have hc1 : 1 ≤ c := by omega
  have hc2 : c ≤ 8 := by omega
  have hR2 : R ≤ 50 := by omega
  rw [hR] at f3 f6 f9
  have hbig' : decide ((100 : Int) < (len : Int)) = false := decide_eq_false (by omega)
  go_enter Try.func6, Try.ntmps6
  go_wp2_with (first
    | (at_builtin; refine wpList_append_ints rfl _ _ 36 rfl w.heap.size 23 i0 (.int .u32 0) 4 .u32 und_ids hi hz0 hz1 hz2 rfl _ _ _ rfl (World.ownsRow_made w #[] 0 (Nat.le_refl _) (Nat.zero_le _) rfl) a len cap us rfl (isInts_below HV.out (q_alloc (Below.refl _ _) _)) hlen hnone ?c1 ?c2 ?c3 ?_)
    | fail)
  case c1 => unfold maxLen; omega
  case c2 => omega
  case c3 => simp
  intro v0 w1 hown0 hgrow hnn
  have hnx0 : Below w.heap.size w w1 := (q_alloc (Below.refl _ _) _).grown hgrow (by simp) (fun j hj => by cases hj; exact Nat.le_refl _)
  clear hgrow f4 f5 f7 f8 f10 f11 hc hd f1 f2
  have hout0 : Outer c us 0 := ⟨.inl rfl, fun x h1 h2 => by omega, HW.out⟩
  have hlen0 : us.length ≤ 100 := by omega
  rw [← hlen] at hown0
  have hown1 : w1.ownsRow w.heap.size 23 1 v0 us.length (us.map u3) := hown0
  go_wp2_with fail
  go_loopw [11, 12, 38] (fun v l i wr => ∃ (r : Nat) (A : List Int) (lst : Int), r ≤ R ∧ i = .int .i64 r ∧ A.length ≤ 100 + r ∧ wr.ownsRow w.heap.size 23 1 v A.length (A.map u3) ∧ (¬ v = .slice none 0 0) ∧ l = u3 lst ∧ Hid (Outer c A lst) ∧ Below w.heap.size w wr)
    (fun _ _ i _ => R - (intOf i).toNat)
  case atStart => exact ⟨0, us, 0, Nat.zero_le _, rfl, by omega, hown1, hnn, rfl, Lib.hid hout0, hnx0⟩
  case round =>
    clear hown0 hown1 hout0 hnx0 hnn hlen hlen0 HV HW
    obtain ⟨r, A, lst, hr, rfl, hAl, hown, hne, rfl, hout, hnx⟩ := hrel
    by_cases hlt : r < R
    · obtain ⟨g, hg⟩ := least_ex (c * 1048576) A (by omega)
      obtain ⟨hlg, hl0, hnext⟩ := hout.out.next hc1 hc2 hg
      have hgb : 0 ≤ g ∧ g < 4294967296 := by have := hg.1; have := hg.2.1; omega
      have HG := Lib.hid hg
      have HNX := Lib.hid hnext
      obtain ⟨G, cp, rfl⟩ := own_form hown hne
      have HO := Lib.hid hown
      clear hg hnext hown
      go_wp2_with fail
      refine (fresh_own' c A _ w.heap.size _ g hc1 hc2 (by omega) hout.out.fits HO.out HG.out).mono ?_
      rintro e W1 ⟨rfl, hb1⟩
      have hnx1 := q_step hnx hb1
      have HO1 := Lib.hid (own_below HO.out hb1)
      clear hb1 hnx HO
      go_wp2_with fail
      go_loopw [15, 48] (fun v2 i ws => ∃ k : Nat, k ≤ A.length ∧ i = .int .i64 k ∧ ws.ownsRow W1.heap.size 23 1 v2 (gather c d (A.take k)).length ((gather c d (A.take k)).map u3) ∧ Below W1.heap.size W1 ws)
        (fun _ i _ => A.length - (intOf i).toNat)
      case atStart => exact ⟨0, Nat.zero_le _, rfl, World.ownsRow_nil _ _ _ _, Below.refl _ _⟩
      case round =>
        obtain ⟨k, hk, rfl, hown2, hin⟩ := hrel
        by_cases hkl : k < A.length
        · have hcx := own_at (own_below HO1.out hin) k hkl
          have hmem : A.getD k 0 ∈ A := by
            rw [List.getD_eq_getElem?_getD, List.getElem?_eq_getElem hkl]; exact List.getElem_mem hkl
          have hxb := hout.out.fits _ hmem
          have hxg : ¬ A.getD k 0 = g := fun e => HG.out.2.2.1 (e ▸ hmem)
          have hst := gather_take c d A k hkl
          have hgl := gather_len c d (A.take k)
          rw [List.length_take, Nat.min_eq_left hk] at hgl
          generalize A.getD k 0 = x at hcx hmem hxb hxg hst
          by_cases hm : mineB c x = true
          · rw [if_pos (by rw [hm]; rfl)] at hst
            have HST := Lib.hid hst
            clear hst hmem
            go_wp2_with fail
            refine (mine_any c x _ hxb.1 hxb.2).mono ?_
            rintro e W2 ⟨rfl, rfl⟩
            rw [hm]
            go_wp2_with (first
              | (at_builtin; refine wpList_append_own _ rfl _ _ 36 rfl W1.heap.size 23 i0 (.int .u32 0) 1 4 und_ids hi hz0 hz1 hz2 rfl (by decide) _ _ _ rfl (hown2.alloc _) _ 1 1 [u3 x] rfl rfl ?e1 ?e2 ?e3 ?e4 ?e5 ?_)
              | fail)
            case e1 =>
              intro j u hj
              match j, hj with
              | 0, hj => simp at hj; subst hj; exact cell_new rfl
            case e2 => intro u hu; simp at hu; subst hu; rfl
            case e3 => unfold maxLen; omega
            case e4 => omega
            case e5 => have := hin.size; simp; omega
            intro v' w4 hown' hgrow _
            have hin1 : Below W1.heap.size W1 w4 := (hin.alloc hin.size _).grown hgrow (by have := hin.size; simp; omega) (fun j hj => (hown2.lt j hj).1)
            have hown3 : w4.ownsRow W1.heap.size 23 1 v' (gather c d (A.take (k + 1))).length ((gather c d (A.take (k + 1))).map u3) := by
              rw [HST.out, List.length_append, List.map_append]; exact hown'
            clear hown' hgrow hown2 hin
            go_wp2_with fail
            go_roundw
            case rel => exact ⟨k + 1, by omega, by go_num, hown3, hin1⟩
            case measure => simp [intOf]; omega
          · have hm : mineB c x = false := by simpa using hm
            by_cases hdc : d = c
            · subst hdc
              rw [if_pos (by rw [hm]; simp)] at hst
              have HST := Lib.hid hst
              clear hst hmem
              go_wp2_with fail
              refine (mine_any d x _ hxb.1 hxb.2).mono ?_
              rintro e W2 ⟨rfl, rfl⟩
              rw [hm]
              go_wp2_with (first
                | (at_builtin; refine wpList_append_own _ rfl _ _ 36 rfl W1.heap.size 23 i0 (.int .u32 0) 1 4 und_ids hi hz0 hz1 hz2 rfl (by decide) _ _ _ rfl (hown2.alloc _) _ 1 1 [u3 x] rfl rfl ?e1 ?e2 ?e3 ?e4 ?e5 ?_)
                | fail)
              case e1 =>
                intro j u hj
                match j, hj with
                | 0, hj => simp at hj; subst hj; exact cell_new rfl
              case e2 => intro u hu; simp at hu; subst hu; rfl
              case e3 => unfold maxLen; omega
              case e4 => omega
              case e5 => have := hin.size; simp; omega
              intro v' w4 hown' hgrow _
              have hin1 : Below W1.heap.size W1 w4 := (hin.alloc hin.size _).grown hgrow (by have := hin.size; simp; omega) (fun j hj => (hown2.lt j hj).1)
              have hown3 : w4.ownsRow W1.heap.size 23 1 v' (gather d d (A.take (k + 1))).length ((gather d d (A.take (k + 1))).map u3) := by
                rw [HST.out, List.length_append, List.map_append]; exact hown'
              clear hown' hgrow hown2 hin
              go_wp2_with fail
              go_roundw
              case rel => exact ⟨k + 1, by omega, by go_num, hown3, hin1⟩
              case measure => simp [intOf]; omega
            · rw [if_neg (by rw [hm, decide_eq_false hdc]; decide), List.append_nil] at hst
              have HST := Lib.hid hst
              clear hst hmem
              go_wp2_with fail
              refine (mine_any c x _ hxb.1 hxb.2).mono ?_
              rintro e W2 ⟨rfl, rfl⟩
              rw [hm]
              go_wp2_with fail
              go_roundw
              case rel => exact ⟨k + 1, by omega, by go_num, by rw [HST.out]; exact hown2, hin⟩
              case measure => simp [intOf]; omega
        · have hkA : k = A.length := by omega
          subst hkA
          rw [List.take_length] at hown2
          have hgl := gather_len c d A
          have HO2 := Lib.hid hown2
          have hm : mineB c g = true := by
            have hw := whose_in (c := c) (r := g - c * 1048576) hc1 hc2 (by have := HG.out.1; omega) (by have := HG.out.2.1; omega)
            rw [show c * 1048576 + (g - c * 1048576) = g by omega] at hw
            exact decide_eq_true (by omega)
          have hwg : 0 ≤ whose g := by
            have := of_decide_eq_true hm
            omega
          have hlow : ¬ g ≤ lst := by omega
          clear hown2
          go_wp2_with fail
          refine (fresh_own' c (gather c d A) _ W1.heap.size _ g hc1 hc2 (by omega) (fun n hn => hout.out.fits n (gather_sub hn)) HO2.out (gather_least hc1 hc2 HG.out)).mono ?_
          rintro e W3 ⟨rfl, hb3⟩
          have hin3 := q_step hin hb3
          have hnx3 := q_step hnx1 hin3
          have HO3 := Lib.hid (own_below HO1.out hin3)
          clear hb3 hin hin3 hnx1 HO1 HO2
          go_wp2_with fail
          refine (mine_any c g _ hgb.1 hgb.2).mono ?_
          rintro e W4 ⟨rfl, rfl⟩
          rw [hm]
          go_wp2_with fail
          refine (check_ok g _ (by omega) hgb.2 hwg).mono ?_
          rintro e W5 ⟨rfl, rfl⟩
          go_wp2_with (first
            | (at_builtin; refine wpList_append_own _ rfl _ _ 36 rfl w.heap.size 23 i0 (.int .u32 0) 1 4 und_ids hi hz0 hz1 hz2 rfl (by decide) _ _ _ rfl (HO3.out.alloc _) _ 1 1 [u3 g] rfl rfl ?e1 ?e2 ?e3 ?e4 ?e5 ?_)
            | fail)
          case e1 =>
            intro j u hj
            match j, hj with
            | 0, hj => simp at hj; subst hj; exact cell_new rfl
          case e2 => intro u hu; simp at hu; subst hu; rfl
          case e3 => unfold maxLen; omega
          case e4 => omega
          case e5 => have := hnx3.size; simp; omega
          intro v' w6 hown' hgrow hn6
          have hnx6 : Below w.heap.size w w6 := (hnx3.alloc hnx3.size _).grown hgrow (by have := hnx3.size; simp; omega) (fun j hj => (HO3.out.lt j hj).1)
          have hown6 : w6.ownsRow w.heap.size 23 1 v' (A ++ [g]).length ((A ++ [g]).map u3) := by
            rw [List.length_append, List.map_append]; exact hown'
          have hne6 : ¬ v' = .slice none 0 0 := by
            first | exact hn6 | (intro e; have := (hn6.1 e).2; omega)
          clear hown' hgrow hn6 HO3 hnx3
          go_wp2_with fail
          go_roundw
          case rel => exact ⟨r + 1, A ++ [g], g, by omega, by go_num, by rw [List.length_append]; simp; omega, hown6, hne6, rfl, HNX, hnx6⟩
          case measure => simp [intOf]; omega
    · have hrR : r = R := by omega
      subst hrR
      clear hown
      go_wp2_with fail
      refine (awake_any _).mono ?_
      rintro e w2 ⟨rfl, hq2⟩
      have hq3 := q_step hnx hq2
      go_wp2_with fail
      go_returns
      exact ⟨by first | rfl | (simp; done), hq3⟩
end Go.Proofs.Ytipgmhldlobjdaa
