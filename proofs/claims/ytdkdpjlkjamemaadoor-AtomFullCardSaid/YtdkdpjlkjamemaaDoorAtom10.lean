/- Layer 9: the document's Intern; the example. -/
import Derived.Test.YtdkdpjlkjamemaaDoorAtom9
namespace Go.Proofs.YtdkdpjlkjamemaaDoor
open Go Go.RowKit Go.Maps
set_option linter.unusedSimpArgs false
set_option linter.unusedVariables false

def internR (l : List B) (s : B) (only : Bool) : List B × Int × Int :=
  if nameB s = false then (l, 0, 11) else if findL l s ≠ 0 then (l, (findL l s : Int), 0) else if only then (l, 0, 0)
  else if 1024 ≤ l.length then (l, 0, 12) else (l ++ [s], ((l.length + 1 : Nat) : Int), 0)
theorem intern_same (more : List B) (s : B) (only : Bool) : internR (knownL ++ more) s only = (knownL ++ (internL more s only).1, (internL more s only).2) := by
  have hlen : (knownL ++ more).length = 10 + more.length := by rw [List.length_append]; rfl
  unfold internR internL numT
  rw [hlen]
  by_cases h1 : nameB s = false
  · rw [if_pos h1, if_pos h1]
  · rw [if_neg h1, if_neg h1]
    by_cases h2 : findL (knownL ++ more) s ≠ 0
    · rw [if_pos h2, if_pos h2]
    · rw [if_neg h2, if_neg h2]
      cases only with
      | true => simp
      | false =>
        simp only [Bool.false_eq_true, if_false]
        by_cases h3 : 1024 ≤ 10 + more.length
        · rw [if_pos h3, if_pos h3]
        · rw [if_neg h3, if_neg h3, List.append_assoc]
          congr 2
          omega
set_option maxRecDepth 100000 in
set_option maxHeartbeats 4000000 in
theorem rintern_old (v : Value) (l : List B) (s : B) (only : Bool) (w : World) (hl : IsStrs w v l) (hlen : l.length ≤ 100000) (hsl : s.length ≤ 100000) (hp : 0 < l.length)
    (ho : nameB s = false ∨ findL l s ≠ 0 ∨ only = true ∨ 1024 ≤ l.length) :
    Calls Tryd.prog 13 #[v, strV s, .bool only] w fun e w' => e = .returned (.tuple #[v, i6 (internR l s only).2.1, i6 (internR l s only).2.2]) ∧ Below w.heap.size w w' := by
  have HL := Lib.hid hl
  obtain ⟨a, cap, hv⟩ : ∃ a cap, v = .slice a l.length cap := by
    rcases hl with ⟨a, cap, rfl, rfl⟩ | ⟨b, off, cap, rfl, _⟩
    · exact ⟨_, _, rfl⟩
    · exact ⟨_, _, rfl⟩
  have HV := Lib.hid hv
  clear hv hl
  unfold internR
  by_cases h1 : nameB s = false
  · rw [if_pos h1]
    have HNB := Lib.hid h1
    clear h1 ho
    go_enter Tryd.func13, Tryd.ntmps13
    go_wp2_with fail
    refine (rright_any s _ (by omega)).mono ?_
    rintro e w2 ⟨rfl, rfl⟩
    rw [HNB.out]
    go_wp2_with fail
    go_returns
    exact ⟨rfl, by (repeat' (first | with_reducible exact Below.refl _ _ | with_reducible assumption | with_reducible refine q_alloc ?_ _ | with_reducible refine q_drew ?_ | with_reducible refine q_drewN _ ?_ | with_reducible refine q_setCell ?_ ?_ _ | (left; simp; done) | (right; simp; done) | (right; dsimp only; omega) | (left; dsimp only; omega)))⟩
  · have h1' : nameB s = true := by simpa using h1
    have HNB := Lib.hid h1'
    rw [if_neg h1]
    by_cases h2 : findL l s ≠ 0
    · rw [if_pos h2]
      obtain ⟨g, hg⟩ : ∃ g, findL l s = g := ⟨_, rfl⟩
      rw [hg] at h2 ⊢
      have HG := Lib.hid hg
      have hg1 : (0 : Int) < (g : Int) := by omega
      clear h1 h1' h2 ho hg
      go_enter Tryd.func13, Tryd.ntmps13
      go_wp2_with fail
      refine (rright_any s _ (by omega)).mono ?_
      rintro e w2 ⟨rfl, rfl⟩
      rw [HNB.out]
      go_wp2_with fail
      refine (rfind_any v l s _ HL.out hlen).mono ?_
      rintro e w2 ⟨rfl, rfl⟩
      rw [HG.out]
      go_wp2_with fail
      go_returns
      exact ⟨rfl, by (repeat' (first | with_reducible exact Below.refl _ _ | with_reducible assumption | with_reducible refine q_alloc ?_ _ | with_reducible refine q_drew ?_ | with_reducible refine q_drewN _ ?_ | with_reducible refine q_setCell ?_ ?_ _ | (left; simp; done) | (right; simp; done) | (right; dsimp only; omega) | (left; dsimp only; omega)))⟩
    · have h2' : findL l s = 0 := by omega
      have HG := Lib.hid h2'
      rw [if_neg h2]
      cases only with
      | true =>
        clear h1 h1' h2 h2' ho
        go_enter Tryd.func13, Tryd.ntmps13
        go_wp2_with fail
        refine (rright_any s _ (by omega)).mono ?_
        rintro e w2 ⟨rfl, rfl⟩
        rw [HNB.out]
        go_wp2_with fail
        refine (rfind_any v l s _ HL.out hlen).mono ?_
        rintro e w2 ⟨rfl, rfl⟩
        rw [HG.out]
        go_wp2_with fail
        go_returns
        exact ⟨rfl, by (repeat' (first | with_reducible exact Below.refl _ _ | with_reducible assumption | with_reducible refine q_alloc ?_ _ | with_reducible refine q_drew ?_ | with_reducible refine q_drewN _ ?_ | with_reducible refine q_setCell ?_ ?_ _ | (left; simp; done) | (right; simp; done) | (right; dsimp only; omega) | (left; dsimp only; omega)))⟩
      | false =>
        have h3 : 1024 ≤ l.length := by
          rcases ho with h | h | h | h
          · exact absurd h h1
          · exact absurd h h2
          · cases h
          · exact h
        rw [if_neg (by simp), if_pos h3]
        have hle : (1024 : Int) ≤ (l.length : Int) := by omega
        clear h1 h1' h2 h2' ho h3
        have hv := HV.out
        subst hv
        go_enter Tryd.func13, Tryd.ntmps13
        go_wp2_with fail
        refine (rright_any s _ (by omega)).mono ?_
        rintro e w2 ⟨rfl, rfl⟩
        rw [HNB.out]
        go_wp2_with fail
        refine (rfind_any _ l s _ HL.out hlen).mono ?_
        rintro e w2 ⟨rfl, rfl⟩
        rw [HG.out]
        go_wp2_with fail
        go_returns
        exact ⟨rfl, by (repeat' (first | with_reducible exact Below.refl _ _ | with_reducible assumption | with_reducible refine q_alloc ?_ _ | with_reducible refine q_drew ?_ | with_reducible refine q_drewN _ ?_ | with_reducible refine q_setCell ?_ ?_ _ | (left; simp; done) | (right; simp; done) | (right; dsimp only; omega) | (left; dsimp only; omega)))⟩
set_option maxRecDepth 100000 in
set_option maxHeartbeats 4000000 in
theorem rintern_new (b off n cap : Nat) (l : List B) (s : B) (w : World) (hl : LayS w b off l) (hn : l.length = n) (hm : n < 1024) (hp : 0 < n) (hsl : s.length ≤ 100000) (hcap : l.length ≤ cap) (hcm : cap ≤ maxLen) (hbw : b < w.heap.size)
    (h1 : nameB s = true) (h2 : findL l s = 0) :
    Calls Tryd.prog 13 #[.slice (some ⟨b, off, none⟩) n cap, strV s, .bool false] w fun e w' => ∃ v, e = .returned (.tuple #[v, i6 ((n + 1 : Nat) : Int), i6 0]) ∧ OwnS w' w.heap.size v (l ++ [s]) ∧ Below w.heap.size w w' := by
  have HNB := Lib.hid h1
  have HG := Lib.hid h2
  have hIS : IsStrs w (.slice (some ⟨b, off, none⟩) n cap) l := by rw [← hn]; exact Or.inr ⟨b, off, cap, rfl, by omega, hcap, hcm, hbw, hl⟩
  have HIS := Lib.hid hIS
  have hcs0 : ∀ j u, (l.map strV)[j]? = some u → w.cell? ((⟨b, off, none⟩ : Addr).add j) = some u := by
    intro j u hj
    rw [List.getElem?_map, Option.map_eq_some_iff] at hj
    obtain ⟨s, hs, rfl⟩ := hj
    have : (⟨b, off, none⟩ : Addr).add j = ⟨b, off + j, none⟩ := by unfold Addr.add; split <;> simp_all
    rw [this]
    exact hl j s hs
  have HCS := Lib.hid hcs0
  have hones : ∀ u ∈ l.map strV, u.oneCell' = true := by
    intro u hu
    obtain ⟨s, _, rfl⟩ := List.mem_map.1 hu
    rfl
  have HON := Lib.hid hones
  have hlm : (l.map strV).length = n * 1 := by simp [hn]
  have HLM := Lib.hid hlm
  have hlen : l.length ≤ 100000 := by omega
  have HLN := Lib.hid hlen
  have hfin : (l ++ [s]).length = 0 + n + 1 := by rw [List.length_append, hn]; simp
  have HF := Lib.hid hfin
  have hmap : (l ++ [s]).map strV = [] ++ l.map strV ++ [strV s] := by simp
  have HMA := Lib.hid hmap
  obtain ⟨i0, hi, hz0, hz1, hz2⟩ := info_parts info_str
  have hlt : ¬ (1024 : Int) ≤ (n : Int) := by omega
  have hw1 : IntKind.i64.wrap ((n : Int) + 1) = (n : Int) + 1 := IntWalk.i64_in _ (by omega)
  have hown : (w.alloc (.cells #[] 9)).ownsRow w.heap.size 9 1 (.slice (some ⟨w.heap.size, 0, none⟩) 0 0) 0 [] := World.ownsRow_lit w #[] 0 (Nat.le_refl _) (by decide) rfl
  have hzc : ((0 : Nat) + n) = n := by omega
  clear hl hn h1 h2 hIS hcs0 hones hlm hlen hfin hmap
  go_enter Tryd.func13, Tryd.ntmps13
  go_wp2_with fail
  refine (rright_any s _ (by omega)).mono ?_
  rintro e w2 ⟨rfl, rfl⟩
  rw [HNB.out]
  go_wp2_with fail
  refine (rfind_any _ l s _ HIS.out HLN.out).mono ?_
  rintro e w2 ⟨rfl, rfl⟩
  rw [HG.out]
  go_wp2_with (at_builtin; refine wpList_append_own _ rfl _ _ 22 rfl w.heap.size 9 i0 (.string ⟨#[]⟩) 1 16 und_strs hi hz0 hz1 hz2 rfl (by decide) _ _ _ rfl hown ⟨b, off, none⟩ n cap (l.map strV) rfl HLM.out (fun j u hj => cell_old (HCS.out j u hj)) HON.out ?c3 ?c4 ?c5 ?_)
  case c3 => unfold maxLen; omega
  case c4 => omega
  case c5 => simp
  intro v1 w3 hv1 hgr _
  have hq3 : Below w.heap.size w w3 := ((Below.refl w.heap.size w).alloc (Nat.le_refl _) _).grown hgr (by simp) (fun j hj => by simp [Value.ownBlock] at hj; omega)
  clear hgr hown
  go_wp2_with (at_builtin; refine wpList_append_own _ rfl _ _ 22 rfl w.heap.size 9 i0 (.string ⟨#[]⟩) 1 16 und_strs hi hz0 hz1 hz2 rfl (by decide) _ _ _ rfl (hv1.alloc _) ⟨w3.heap.size, 0, none⟩ 1 1 [strV s] rfl rfl strV_cells strV_one ?d3 ?d4 ?d5 ?_)
  case d3 => unfold maxLen; omega
  case d4 => omega
  case d5 => have := hq3.size; simp; omega
  intro v2 w4 hv2 hgr2 _
  have hq4 : Below w.heap.size w w4 := (q_alloc hq3 _).grown hgr2 (by have := hq3.size; simp; omega) (fun j hj => (hv1.lt j hj).1)
  have hfv : OwnS w4 w.heap.size v2 (l ++ [s]) := by unfold OwnS; rw [HF.out, HMA.out]; simpa using hv2
  clear hv1 hv2 hgr2 hq3
  go_wp2_with fail
  go_returns
  exact ⟨_, by first | rfl | (simp; done), hfv, hq4⟩

theorem rintern_any (lo : Nat) (v : Value) (l : List B) (s : B) (only : Bool) (w : World) (hl : StrLo lo w v l) (hlo : lo ≤ w.heap.size) (hlen : l.length ≤ 100000) (hsl : s.length ≤ 100000) (hp : 0 < l.length) :
    Calls Tryd.prog 13 #[v, strV s, .bool only] w fun e w' => ∃ v', e = .returned (.tuple #[v', i6 (internR l s only).2.1, i6 (internR l s only).2.2]) ∧ StrLo lo w' v' (internR l s only).1 ∧ Below w.heap.size w w' := by
  by_cases ho : nameB s = false ∨ findL l s ≠ 0 ∨ only = true ∨ 1024 ≤ l.length
  · have hr : (internR l s only).1 = l := by
      unfold internR
      rcases ho with h | h | h | h
      all_goals (repeat' split) <;> first | rfl | contradiction | (exfalso; omega) | simp_all
    rw [hr]
    exact (rintern_old v l s only w hl.1 hlen hsl hp ho).mono fun e w' ⟨he, hb⟩ => ⟨v, he, hl.below hb, hb⟩
  · have h1 : nameB s = true := by
      cases h : nameB s
      · exact absurd (Or.inl h) ho
      · rfl
    have h2 : findL l s = 0 := by
      by_cases h : findL l s = 0
      · exact h
      · exact absurd (Or.inr (Or.inl h)) ho
    have h3 : only = false := by
      cases h : only
      · rfl
      · exact absurd (Or.inr (Or.inr (Or.inl h))) ho
    have h4 : l.length < 1024 := by
      by_cases h : 1024 ≤ l.length
      · exact absurd (Or.inr (Or.inr (Or.inr h))) ho
      · omega
    subst h3
    have hr : internR l s false = (l ++ [s], ((l.length + 1 : Nat) : Int), 0) := by
      unfold internR
      rw [if_neg (by simp [h1]), if_neg (by simp [h2]), if_neg (by simp), if_neg (by omega)]
    rw [hr]
    rcases hl.1 with ⟨a, cap, rfl, rfl⟩ | ⟨b, off, cap, rfl, q1, q2, q3, q4, q5⟩
    · simp at hp
    · exact (rintern_new b off _ cap l s w q5 rfl h4 q1 hsl q2 q3 q4 h1 h2).mono fun e w' ⟨v', he, ho, hb⟩ => ⟨v', he, ⟨(ownS_lo ho).1, (ownS_lo ho).2.le hlo⟩, hb⟩
theorem lentN_any (sv mv : Value) (more : List B) (N : Nat) (w : World) (hml : more.length ≤ 100000) (hT : TabOf w sv mv more) (hN : 10 + more.length = N) :
    Calls Tryd.prog 16 #[.agg #[sv, mv]] w fun e w' => e = .returned (i6 (N : Int)) ∧ Below w.heap.size w w' := by
  obtain ⟨a, cap, m, rfl, rfl⟩ := hT.forms
  rw [← hN]
  exact len_any a _ cap _ w hml
theorem internT_any (lo : Nat) (sv mv : Value) (more : List B) (s : B) (only : Bool) (w : World) (hs : RowAt 0 knownCells w) (hsl : s.length ≤ 100000) (hml : more.length ≤ 100000) (hT : TabLo lo w sv mv more) (hlo : lo ≤ w.heap.size) :
    Calls Tryd.prog 12 #[.agg #[sv, mv], strV s, .bool only] w fun e w' => ∃ a cap m, e = .returned (.tuple #[.agg #[.slice a (internL more s only).1.length cap, .map m], u3 (internL more s only).2.1, i6 (internL more s only).2.2]) ∧ TabLo lo w' (.slice a (internL more s only).1.length cap) (.map m) (internL more s only).1 ∧ Below w.heap.size w w' := by
  refine (intern_any sv mv more s only w hs hsl hml hT.1).mono ?_
  rintro e w' ⟨sv', mv', rfl, hT', hb, hn⟩
  obtain ⟨a, cap, m, rfl, rfl⟩ := hT'.forms
  refine ⟨a, cap, m, rfl, ⟨hT', ?_⟩, hb⟩
  rcases hn with ⟨h1, h2⟩ | ⟨h1, h2⟩
  · rw [h1, h2]; exact hT.2
  · exact ⟨h1.le hlo, h2.le hlo⟩
end Go.Proofs.YtdkdpjlkjamemaaDoor
