/- Layer 3: names; a field's word parted. -/
import Derived.Test.YtbffnobchjiaeaaDoorCd3
namespace Go.Proofs.YtbffnobchjiaeaaDoor
open Go Go.RowKit
set_option linter.unusedSimpArgs false
set_option linter.unusedVariables false
set_option maxRecDepth 100000 in
theorem name_any (n : Int) (w : World) : Calls Tryd.prog 18 #[i6 n] w fun e w' => e = .returned (strV (reqT n).1) ∧ Below w.heap.size w w' := by
  generalize hE : reqT n = en
  have HE := Lib.hid hE
  clear hE
  go_enter Tryd.func18, Tryd.ntmps18
  go_wp2_with fail
  refine (request_any n _).mono ?_
  rintro e w1 ⟨rfl, hb⟩
  rw [HE.out]
  have hfd : ∀ w, (Instr.field 44 (eV en) 0).run Tryd.prog w = .ok (strV en.1) w := fun _ => by kernel_rfl
  go_wp2_with fail
  go_ret
  exact ⟨by first | rfl | (simp; done), hb⟩
set_option maxRecDepth 100000 in
theorem eventname_any (n : Int) (w : World) : Calls Tryd.prog 20 #[i6 n] w fun e w' => e = .returned (strV (eveT n).1) ∧ Below w.heap.size w w' := by
  generalize hE : eveT n = en
  have HE := Lib.hid hE
  clear hE
  go_enter Tryd.func20, Tryd.ntmps20
  go_wp2_with fail
  refine (event_any n _).mono ?_
  rintro e w1 ⟨rfl, hb⟩
  rw [HE.out]
  have hfd : ∀ w, (Instr.field 44 (eV en) 0).run Tryd.prog w = .ok (strV en.1) w := fun _ => by kernel_rfl
  go_wp2_with fail
  go_ret
  exact ⟨by first | rfl | (simp; done), hb⟩
theorem get_str (l : B8) (k : Nat) (h : k < l.length) (h' : k < (⟨l.toArray⟩ : ByteArray).size) : ((⟨l.toArray⟩ : ByteArray)[k]'h') = l.getD k 0 := by
  rw [ByteArray.getElem_eq_getElem_data]
  simp [List.getD, List.getElem?_eq_getElem h]
theorem ext_take (l : B8) (k : Nat) : (⟨l.toArray⟩ : ByteArray).extract 0 k = ⟨(l.take k).toArray⟩ := by
  apply ByteArray.ext
  apply Array.ext'
  simp [ByteArray.data_extract]
theorem u8_45 (c : UInt8) : (((c.toNat : Nat) : Int) == 45) = (c == 45) := by
  rw [Bool.eq_iff_iff]; simp [← UInt8.toNat_inj]; omega
set_option maxRecDepth 100000 in
set_option maxHeartbeats 1000000 in
theorem split_any (s : B8) (w : World) (h2 : 2 ≤ s.length) (hl : s.length ≤ 1000) (hd : digitB (s.getD (s.length - 1) 0) = true) :
    Calls Tryd.prog 39 #[strV s] w fun e w' => e = .returned (.tuple #[strV (nameOf s), i6 (sizeOf_ s)]) ∧ w = w' := by
  obtain ⟨n, hn⟩ : ∃ n, s.length = n + 2 := ⟨s.length - 2, by omega⟩
  have hsz : (⟨s.toArray⟩ : ByteArray).size = n + 2 := by show s.toArray.size = _; simpa using hn
  go_enter Tryd.func39, Tryd.ntmps39
  go_wp2_with fail
  all_goals rename_i h
  all_goals rw [get_str s n (by omega)] at h
  all_goals rw [u8_45] at h
  · have e0 : dashB s = true := by unfold dashB; rw [hn]; exact h
    go_returns
    refine ⟨?_, rfl⟩
    rw [get_str s (n + 1) (by omega), ext_take]
    unfold nameOf sizeOf_ digOf
    rw [e0, hn]
    unfold digitB at hd
    rw [hn] at hd
    simp at hd
    simp
    omega
  · have e0 : dashB s = false := by unfold dashB; rw [hn]; exact h
    go_returns
    refine ⟨?_, rfl⟩
    rw [get_str s (n + 1) (by omega), ext_take]
    unfold nameOf sizeOf_ digOf
    rw [e0, hn]
    unfold digitB at hd
    rw [hn] at hd
    simp at hd
    simp
    omega
end Go.Proofs.YtbffnobchjiaeaaDoor
