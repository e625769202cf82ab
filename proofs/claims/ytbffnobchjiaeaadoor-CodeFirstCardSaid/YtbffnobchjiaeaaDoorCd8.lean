/- Layer 3: a text at a byte. -/
import Derived.Test.YtbffnobchjiaeaaDoorCd7
namespace Go.Proofs.YtbffnobchjiaeaaDoor
open Go Go.RowKit
set_option linter.unusedSimpArgs false
set_option linter.unusedVariables false
theorem ext_mid (l : B8) (i j : Nat) : (⟨l.toArray⟩ : ByteArray).extract i j = ⟨((l.drop i).take (j - i)).toArray⟩ := by
  apply ByteArray.ext
  apply Array.ext'
  simp [ByteArray.data_extract]
theorem drop_at {s : B8} {k : Nat} {c : UInt8} (h : s[k]? = some c) : s.drop k = c :: s.drop (k + 1) := by
  obtain ⟨h1, h2⟩ := List.getElem?_eq_some_iff.1 h
  rw [List.drop_eq_getElem_cons h1, h2]
theorem piece_snoc {s : B8} {k f : Nat} {c : UInt8} (h : s[k]? = some c) (hf : f ≤ k) : (s.drop f).take (k + 1 - f) = (s.drop f).take (k - f) ++ [c] := by
  rw [show k + 1 - f = (k - f) + 1 by omega, List.take_add_one, List.getElem?_drop, show f + (k - f) = k by omega, h]; rfl
/-- What the loop has gathered, and what is to come. -/
def PartsSt (s : B8) (a : UInt8) (k f : Nat) (ss : List B8) : Prop := ss ++ partsGo a ((s.drop f).take (k - f)) (s.drop k) = partsF s a
theorem PartsSt.start (s : B8) (a : UInt8) : PartsSt s a 0 0 [] := by simp [PartsSt, partsF]
theorem PartsSt.yes {s : B8} {a : UInt8} {k f : Nat} {ss : List B8} {c : UInt8} (h : PartsSt s a k f ss) (hk : s[k]? = some c) (hc : c = a) : PartsSt s a (k + 1) (k + 1) (ss ++ [(s.drop f).take (k - f)]) := by
  unfold PartsSt at h ⊢
  rw [drop_at hk, partsGo, if_pos (by simp [hc])] at h
  rw [← h]
  simp
theorem PartsSt.no {s : B8} {a : UInt8} {k f : Nat} {ss : List B8} {c : UInt8} (h : PartsSt s a k f ss) (hk : s[k]? = some c) (hf : f ≤ k) (hc : c ≠ a) : PartsSt s a (k + 1) f ss := by
  unfold PartsSt at h ⊢
  rw [drop_at hk, partsGo, if_neg (by simp [hc])] at h
  rw [piece_snoc hk hf]
  exact h
theorem PartsSt.last {s : B8} {a : UInt8} {f : Nat} {ss : List B8} (h : PartsSt s a s.length f ss) : ss ++ [(s.drop f).take (s.length - f)] = partsF s a := by
  unfold PartsSt at h
  rw [List.drop_length, partsGo] at h
  exact h
set_option maxRecDepth 100000 in
set_option maxHeartbeats 4000000 in
theorem parts_any (s : B8) (a : UInt8) (w : World) (hl : s.length ≤ 1000) :
    Calls Tryd.prog 31 #[strV s, .int .u8 (a.toNat : Int)] w fun e w' => ∃ v, e = .returned v ∧ OwnS w' w.heap.size v (partsF s a) ∧ Below w.heap.size w w' := by
  obtain ⟨i1, hj, hy0, hy1, hy2⟩ := info_parts info_str
  obtain ⟨A, hA⟩ : ∃ A, a.toNat = A := ⟨_, rfl⟩
  have HA := Lib.hid hA
  rw [hA]
  clear hA
  obtain ⟨P, hP⟩ : ∃ P, partsF s a = P := ⟨_, rfl⟩
  rw [hP]
  have HP := Lib.hid hP
  clear hP
  obtain ⟨n, hn⟩ : ∃ n, s.length = n := ⟨_, rfl⟩
  have hsz : (⟨s.toArray⟩ : ByteArray).size = n := by show s.toArray.size = n; rw [List.size_toArray]; exact hn
  have HN := Lib.hid hn
  rw [hn] at hl
  clear hn
  go_enter Tryd.func31, Tryd.ntmps31
  go_wp2_with fail
  go_loopw [5, 6, 7] (fun out fr i wr => ∃ (k f : Nat) (ss : List B8), f ≤ k ∧ k ≤ n + 1 ∧ i = .int .i64 k ∧ fr = .int .i64 f ∧ OwnS wr w.heap.size out ss ∧ ss.length ≤ k ∧ Below w.heap.size w wr ∧ (k ≤ n ∧ Hid (PartsSt s a k f ss) ∨ k = n + 1 ∧ Hid (ss = P)))
    (fun _ _ i _ => n + 1 - (intOf i).toNat)
  case atStart => exact ⟨0, 0, [], by omega, by omega, rfl, rfl, World.ownsRow_nil _ _ _ _, by simp, Below.refl _ _, Or.inl ⟨by omega, Lib.hid (PartsSt.start s a)⟩⟩
  case round =>
    obtain ⟨k, f, ss, hfk, hkn, rfl, rfl, hown, hss, hq, hst⟩ := hrel
    by_cases hlt : k < n
    · obtain ⟨hk1, hst⟩ := hst.resolve_right (by omega)
      obtain ⟨c, hc⟩ : ∃ c, s[k]? = some c := ⟨_, List.getElem?_eq_getElem (by have := HN.out; omega)⟩
      have hgk : (((⟨s.toArray⟩ : ByteArray)[k]'(by rw [hsz]; omega)).toNat : Int) = (c.toNat : Int) := by
        rw [get_str s k (by have := HN.out; omega)]; simp [List.getD, hc]
      have hne : ((k : Int) == (n : Int)) = false := by simp; omega
      have HC := Lib.hid hc
      have HO := Lib.hid hown
      clear hc hown
      by_cases hca : c = a
      · have hst2 := Lib.hid (hst.out.yes HC.out hca)
        have hct : (((c.toNat : Nat) : Int) == (A : Int)) = true := by rw [hca, HA.out]; simp
        generalize c.toNat = C at hgk hct
        have hpc : (⟨s.toArray⟩ : ByteArray).extract f k = ⟨((s.drop f).take (k - f)).toArray⟩ := ext_mid s f k
        generalize (s.drop f).take (k - f) = pc at hst2 hpc
        clear hst hca
        go_wp2_with (at_builtin; refine wpList_append_own _ rfl _ _ 38 rfl w.heap.size 9 i1 (.string ByteArray.empty) 1 16 und_strs hj hy0 hy1 hy2 rfl (by decide) _ _ _ rfl (HO.out.alloc _) ⟨wr.heap.size, 0, none⟩ 1 1 [strV pc] rfl rfl ?c1 ?c2 ?c3 ?c4 ?c5 ?_)
        case c1 =>
          intro j u hj
          match j, hj with
          | 0, hj => simp at hj; subst hj; exact cell_new rfl
        case c2 => intro u hu; simp at hu; subst hu; rfl
        case c3 => unfold maxLen; omega
        case c4 => omega
        case c5 => have := hq.size; simp; omega
        intro v' w1 hown' hgrow _
        have hq1 : Below w.heap.size w w1 := (hq.alloc hq.size _).grown hgrow (by have := hq.size; simp; omega) (fun j hj => (HO.out.lt j hj).1)
        have HO1 := Lib.hid (own_snocS hown')
        clear hown' hgrow HO hq hct hgk hpc
        go_wp2_with fail
        go_roundw
        case rel => exact ⟨k + 1, k + 1, ss ++ [pc], by omega, by omega, by go_num, by go_num, HO1.out, by simp <;> omega, hq1, Or.inl ⟨by omega, hst2⟩⟩
        case measure => simp [intOf] <;> omega
      · have hst2 := Lib.hid (hst.out.no HC.out hfk hca)
        have hct : (((c.toNat : Nat) : Int) == (A : Int)) = false := by
          have : c.toNat ≠ A := by rw [← HA.out]; intro e; exact hca (UInt8.toNat_inj.1 e)
          simp; omega
        generalize c.toNat = C at hgk hct
        clear hst hca
        go_wp2_with fail
        go_roundw
        case rel => exact ⟨k + 1, f, ss, by omega, by omega, by go_num, rfl, HO.out, by omega, hq, Or.inl ⟨by omega, hst2⟩⟩
        case measure => simp [intOf] <;> omega
    · by_cases hkn1 : k = n
      · subst hkn1
        obtain ⟨_, hst⟩ := hst.resolve_right (by omega)
        have hst' := hst.out
        rw [← HN.out] at hst'
        have hlast := hst'.last
        rw [HN.out, HP.out] at hlast
        have hpc : (⟨s.toArray⟩ : ByteArray).extract f k = ⟨((s.drop f).take (k - f)).toArray⟩ := ext_mid s f k
        generalize (s.drop f).take (k - f) = pc at hlast hpc
        have HL := Lib.hid hlast
        have HO := Lib.hid hown
        have hee : ((k : Int) == (k : Int)) = true := by simp
        clear hlast hst' hst hown
        go_wp2_with (at_builtin; refine wpList_append_own _ rfl _ _ 38 rfl w.heap.size 9 i1 (.string ByteArray.empty) 1 16 und_strs hj hy0 hy1 hy2 rfl (by decide) _ _ _ rfl (HO.out.alloc _) ⟨wr.heap.size, 0, none⟩ 1 1 [strV pc] rfl rfl ?e1 ?e2 ?e3 ?e4 ?e5 ?_)
        case e1 =>
          intro j u hj
          match j, hj with
          | 0, hj => simp at hj; subst hj; exact cell_new rfl
        case e2 => intro u hu; simp at hu; subst hu; rfl
        case e3 => unfold maxLen; omega
        case e4 => omega
        case e5 => have := hq.size; simp; omega
        intro v' w1 hown' hgrow _
        have hq1 : Below w.heap.size w w1 := (hq.alloc hq.size _).grown hgrow (by have := hq.size; simp; omega) (fun j hj => (HO.out.lt j hj).1)
        have HO1 := Lib.hid (own_snocS hown')
        clear hown' hgrow HO hq hpc hee
        go_wp2_with fail
        go_roundw
        case rel => exact ⟨k + 1, k + 1, ss ++ [pc], by omega, by omega, by go_num, by go_num, HO1.out, by simp <;> omega, hq1, Or.inr ⟨rfl, HL⟩⟩
        case measure => simp [intOf] <;> omega
      · obtain ⟨hk9, hst9⟩ := hst.resolve_left (by omega)
        subst hk9
        clear hst
        have HI := Lib.hid hown
        clear hown
        go_wp2_with fail
        go_returns
        exact ⟨_, rfl, by rw [← hst9.out]; exact HI.out, hq⟩
end Go.Proofs.YtbffnobchjiaeaaDoor
