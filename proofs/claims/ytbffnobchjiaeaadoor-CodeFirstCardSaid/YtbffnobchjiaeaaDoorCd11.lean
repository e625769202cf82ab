/- Layer 3: the document's names and forms of codes. -/
import Derived.Test.YtbffnobchjiaeaaDoorCd10
namespace Go.Proofs.YtbffnobchjiaeaaDoor
open Go Go.RowKit
set_option linter.unusedSimpArgs false
set_option linter.unusedVariables false
def reqFm (n : Int) : F3 := if n < 1 ∨ 58 < n then ([], false, 0) else (formF (reqT n).2.1).1
def eveFm (n : Int) : F3 := if n < 1 ∨ 25 < n then ([], false, 0) else (formF (eveT n).2.1).1
def repB (n : Int) : Bool := decide (1 ≤ n) && decide (n ≤ 58) && !((reqT n).2.2 == [45])
def repFm (n : Int) : F3 := if repB n = true then (formF (reqT n).2.2).1 else ([], false, 0)
theorem req_len : (reqL ++ evL ++ repL).all (fun s => decide (s.length ≤ 1000)) = true := by decide +kernel
theorem req_n : reqL.length = 58 ∧ evL.length = 25 ∧ repL.length = 58 := by decide +kernel
theorem len_of {s : B8} (h : s ∈ reqL ++ evL ++ repL) : s.length ≤ 1000 := by
  have := (List.all_eq_true.1 req_len) s h
  simpa using this
structure ReqIs (k : Nat) (L : List B8) (e : E3) (s : B8) : Prop where
  at_ : L[k]? = some s
  len : s.length ≤ 1000
  two : (partsF s 124).length = 2
  name : e.1 = (partsF s 124).getD 0 []
  form : (formF e.2.1).1 = formR ((partsF s 124).getD 1 [])
  ok : okR ((partsF s 124).getD 1 []) = true
theorem reqIs (k : Nat) (h : k < 58) : ∃ s, ReqIs k reqL (reqT ((k : Int) + 1)) s := by
  have h1 := (List.all_eq_true.1 req_eq) k (by simpa using h)
  unfold eqReq at h1
  simp only [Bool.and_eq_true, beq_iff_eq] at h1
  have hk : k < reqL.length := by rw [req_n.1]; exact h
  have hg : reqL.getD k [] = reqL[k] := by simp [List.getD, List.getElem?_eq_getElem hk]
  rw [hg] at h1
  exact ⟨reqL[k], List.getElem?_eq_getElem hk, len_of (by simp), h1.1.2, h1.1.1.2, h1.1.1.1, h1.2⟩
theorem eveIs (k : Nat) (h : k < 25) : ∃ s, ReqIs k evL (eveT ((k : Int) + 1)) s := by
  have h1 := (List.all_eq_true.1 eve_eq) k (by simpa using h)
  unfold eqEve at h1
  simp only [Bool.and_eq_true, beq_iff_eq] at h1
  have hk : k < evL.length := by rw [req_n.2.1]; exact h
  have hg : evL.getD k [] = evL[k] := by simp [List.getD, List.getElem?_eq_getElem hk]
  rw [hg] at h1
  exact ⟨evL[k], List.getElem?_eq_getElem hk, len_of (by simp), h1.1.2, h1.1.1.2, h1.1.1.1, h1.2⟩
theorem tab_fact {e : E3} (h : e ∈ winT ++ drawT ++ handT ++ evT) : okS e.2.1 = true ∧ e.1 ≠ [] ∧ (e.2.2 = [45] ∨ okS e.2.2 = true) := by
  have h1 := (List.all_eq_true.1 tab_ok) e h
  simp only [Bool.and_eq_true, Bool.or_eq_true, beq_iff_eq, Bool.not_eq_true', List.isEmpty_eq_false_iff] at h1
  exact ⟨h1.1.1.1, h1.1.1.2, h1.1.2⟩
set_option maxRecDepth 100000 in
set_option maxHeartbeats 1000000 in
theorem rname_any (n : Int) (w : World) : Calls Tryd.prog 19 #[i6 n] w fun e w' => e = .returned (strV (reqT n).1) ∧ Below w.heap.size w w' := by
  by_cases h1 : n < 1
  · rw [reqT_out n (Or.inl h1)]
    go_enter Tryd.func19, Tryd.ntmps19
    go_wp2_with fail
    go_ret
    exact ⟨rfl, Below.refl _ _⟩
  by_cases h2 : 58 < n
  · rw [reqT_out n (Or.inr h2)]
    go_enter Tryd.func19, Tryd.ntmps19
    go_wp2_with fail
    refine (requests_any _).mono ?_
    rintro e w1 ⟨rfl, _, hb1⟩
    go_wp2_with fail
    go_ret
    exact ⟨rfl, hb1⟩
  · obtain ⟨k, hk, rfl⟩ : ∃ k : Nat, k < 58 ∧ n = (k : Int) + 1 := ⟨(n - 1).toNat, by omega, by omega⟩
    obtain ⟨s, hs⟩ := reqIs k hk
    obtain ⟨ps, hps⟩ : ∃ ps, partsF s 124 = ps := ⟨_, rfl⟩
    have htwo : ps.length = 2 := by rw [← hps]; exact hs.two
    rw [hs.name, hps]
    have HS := Lib.hid hs
    have HPS := Lib.hid hps
    clear hs hps
    obtain ⟨p0, p1, rfl⟩ : ∃ p0 p1, ps = [p0, p1] := by
      match ps, htwo with
      | [p0, p1], _ => exact ⟨p0, p1, rfl⟩
    clear htwo
    have hwr : IntKind.i64.wrap ((k : Int) + 1 - 1) = (k : Int) := by rw [IntWalk.i64_in _ (by omega)]; omega
    have hsb : (k : Int) + 1 - 1 = (k : Int) := by omega
    go_enter Tryd.func19, Tryd.ntmps19
    go_wp2_with fail
    refine (requests_any _).mono ?_
    rintro e w1 ⟨rfl, _, hb1⟩
    go_wp2_with fail
    refine (requests_any _).mono ?_
    rintro e w2 ⟨rfl, hl2, hb2⟩
    have d0 := hl2.2 k (strV s) (by rw [List.getElem?_map, HS.out.at_]; rfl)
    clear hl2
    go_wp2_with fail
    refine (parts_any s 124 _ HS.out.len).mono ?_
    rintro e w3 ⟨v, rfl, hown, hb3⟩
    rw [HPS.out] at hown
    obtain ⟨g, cap, rfl⟩ := Joins.ownsRow_form hown (by simp)
    have e0 := hown.cellAt 0 (by simp)
    simp at e0
    clear hown d0
    go_wp2_with fail
    go_ret
    exact ⟨by first | rfl | (simp; done), q_step (q_step hb1 hb2) hb3⟩
set_option maxRecDepth 100000 in
set_option maxHeartbeats 1000000 in
theorem rename_any (n : Int) (w : World) : Calls Tryd.prog 21 #[i6 n] w fun e w' => e = .returned (strV (eveT n).1) ∧ Below w.heap.size w w' := by
  by_cases h1 : n < 1
  · rw [eveT_out n (Or.inl h1)]
    go_enter Tryd.func21, Tryd.ntmps21
    go_wp2_with fail
    go_ret
    exact ⟨rfl, Below.refl _ _⟩
  by_cases h2 : 25 < n
  · rw [eveT_out n (Or.inr h2)]
    go_enter Tryd.func21, Tryd.ntmps21
    go_wp2_with fail
    refine (events_any _).mono ?_
    rintro e w1 ⟨rfl, _, hb1⟩
    go_wp2_with fail
    go_ret
    exact ⟨rfl, hb1⟩
  · obtain ⟨k, hk, rfl⟩ : ∃ k : Nat, k < 25 ∧ n = (k : Int) + 1 := ⟨(n - 1).toNat, by omega, by omega⟩
    obtain ⟨s, hs⟩ := eveIs k hk
    obtain ⟨ps, hps⟩ : ∃ ps, partsF s 124 = ps := ⟨_, rfl⟩
    have htwo : ps.length = 2 := by rw [← hps]; exact hs.two
    rw [hs.name, hps]
    have HS := Lib.hid hs
    have HPS := Lib.hid hps
    clear hs hps
    obtain ⟨p0, p1, rfl⟩ : ∃ p0 p1, ps = [p0, p1] := by
      match ps, htwo with
      | [p0, p1], _ => exact ⟨p0, p1, rfl⟩
    clear htwo
    have hwr : IntKind.i64.wrap ((k : Int) + 1 - 1) = (k : Int) := by rw [IntWalk.i64_in _ (by omega)]; omega
    have hsb : (k : Int) + 1 - 1 = (k : Int) := by omega
    go_enter Tryd.func21, Tryd.ntmps21
    go_wp2_with fail
    refine (events_any _).mono ?_
    rintro e w1 ⟨rfl, _, hb1⟩
    go_wp2_with fail
    refine (events_any _).mono ?_
    rintro e w2 ⟨rfl, hl2, hb2⟩
    have d0 := hl2.2 k (strV s) (by rw [List.getElem?_map, HS.out.at_]; rfl)
    clear hl2
    go_wp2_with fail
    refine (parts_any s 124 _ HS.out.len).mono ?_
    rintro e w3 ⟨v, rfl, hown, hb3⟩
    rw [HPS.out] at hown
    obtain ⟨g, cap, rfl⟩ := Joins.ownsRow_form hown (by simp)
    have e0 := hown.cellAt 0 (by simp)
    simp at e0
    clear hown d0
    go_wp2_with fail
    go_ret
    exact ⟨by first | rfl | (simp; done), q_step (q_step hb1 hb2) hb3⟩
end Go.Proofs.YtbffnobchjiaeaaDoor
