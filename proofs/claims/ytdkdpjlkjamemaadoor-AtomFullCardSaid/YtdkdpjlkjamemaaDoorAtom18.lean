/- Layer 9: a full table: names by their numbers. -/
import Derived.Test.YtdkdpjlkjamemaaDoorAtom16
import Derived.Deep.OwnRows
import Derived.Laws.BytesArg
namespace Go.Proofs.YtdkdpjlkjamemaaDoor
open Go Go.RowKit Go.Maps
set_option linter.unusedSimpArgs false
set_option linter.unusedVariables false
/-- The name of number i. -/
def nmL (i : Nat) : B := [43, UInt8.ofNat (97 + i % 26), UInt8.ofNat (97 + i / 26 % 26), UInt8.ofNat (97 + i / 676)]
def nmsL (k : Nat) : List B := (List.range k).map nmL
theorem nmsL_len (k : Nat) : (nmsL k).length = k := by unfold nmsL; simp
theorem nmsL_step (k : Nat) : nmsL (k + 1) = nmsL k ++ [nmL k] := by unfold nmsL; rw [List.range_succ, List.map_append]; rfl
theorem nmsL_at (n i : Nat) (h : i < n) : (nmsL n)[i]? = some (nmL i) := by unfold nmsL; rw [List.getElem?_map, List.getElem?_range h]; rfl
theorem u8_inj {a b : Nat} (ha : a < 256) (hb : b < 256) (h : UInt8.ofNat a = UInt8.ofNat b) : a = b := by
  have := congrArg UInt8.toNat h
  rw [UInt8.toNat_ofNat', UInt8.toNat_ofNat'] at this
  omega
theorem nmL_inj {i j : Nat} (hi : i < 1100) (hj : j < 1100) (h : nmL i = nmL j) : i = j := by
  unfold nmL at h
  simp only [List.cons.injEq, and_true, true_and] at h
  obtain ⟨h1, h2, h3⟩ := h
  have e1 := u8_inj (by omega) (by omega) h1
  have e2 := u8_inj (by omega) (by omega) h2
  have e3 := u8_inj (by omega) (by omega) h3
  omega
theorem nmL_name {i : Nat} (hi : i < 1100) : nameB (nmL i) = true := by
  have e1 : (UInt8.ofNat (97 + i % 26)).toNat = 97 + i % 26 := by rw [UInt8.toNat_ofNat']; omega
  have e2 : (UInt8.ofNat (97 + i / 26 % 26)).toNat = 97 + i / 26 % 26 := by rw [UInt8.toNat_ofNat']; omega
  have e3 : (UInt8.ofNat (97 + i / 676)).toNat = 97 + i / 676 := by rw [UInt8.toNat_ofNat']; omega
  unfold nameB nmL okC
  simp only [List.all_cons, List.all_nil, List.length_cons, List.length_nil, e1, e2, e3]
  simp
  omega
theorem nmL_known (i : Nat) : nmL i ∉ knownL := by
  unfold nmL knownL
  simp
theorem nmsL_new {k : Nat} (i : Nat) (hi : i < 1100) (hk : k ≤ i) : numT (nmsL k) (nmL i) = 0 := by
  unfold numT
  rw [findL_zero]
  intro hin
  rcases List.mem_append.1 hin with hin | hin
  · exact nmL_known i hin
  · unfold nmsL at hin
    obtain ⟨j, hj, he⟩ := List.mem_map.1 hin
    have hj := List.mem_range.1 hj
    have := nmL_inj (by omega) hi he
    omega
/-- Asked for one by one: taken up to the 1014th, full behind. -/
theorem internL_nm {i : Nat} (hi : i < 1100) (h : i < 1014) : internL (nmsL i) (nmL i) false = (nmsL (i + 1), ((11 + i : Nat) : Int), 0) := by
  unfold internL
  rw [if_neg (by rw [nmL_name hi]; decide), if_neg (by rw [nmsL_new i hi (Nat.le_refl _)]; decide), if_neg (by decide), if_neg (by rw [nmsL_len]; omega), ← nmsL_step, nmsL_len]
theorem internL_full {i : Nat} (hi : i < 1100) (h : 1014 ≤ i) : internL (nmsL 1014) (nmL i) false = (nmsL 1014, 0, 12) := by
  unfold internL
  rw [if_neg (by rw [nmL_name hi]; decide), if_neg (by rw [nmsL_new i hi h]; decide), if_neg (by decide), if_pos (by rw [nmsL_len]; decide)]
theorem info_u8 : (Tryd.prog.info? 5).map (fun i => (i.zero, i.size, i.bytes)) = some (some (.int .u8 0), 1, 1) := by kernel_rfl
theorem und_bytes9 : Tryd.prog.underlying 55 = some (.slice 5) := by kernel_rfl
theorem und_byte9 : Tryd.prog.underlying 5 = some (.int .u8) := by kernel_rfl
theorem nm_cat (k : Nat) : (⟨#[43]⟩ : ByteArray) ++ strOfNums [((97 + k % 26 : Nat) : Int), ((97 + k / 26 % 26 : Nat) : Int), ((97 + k / 676 : Nat) : Int)] = ⟨(nmL k).toArray⟩ := by
  apply ByteArray.ext
  apply Array.ext'
  rw [ByteArray.data_append, Array.toList_append, strOfNums_data]
  simp only [nmL, List.map_cons, List.map_nil, Int.toNat_natCast]
  rfl
set_option maxRecDepth 100000 in
set_option maxHeartbeats 1000000 in
theorem numbered_any (n : Nat) (hn : n ≤ 1100) (w : World) :
    Calls Tryd.prog 18 #[strV [43], i6 n] w fun e w' => ∃ v, e = .returned v ∧ OwnS w' w.heap.size v (nmsL n) ∧ Below w.heap.size w w' := by
  obtain ⟨i0, hi, hz0, hz1, hz2⟩ := info_parts info_str
  go_enter Tryd.func18, Tryd.ntmps18
  go_wp2_with fail
  go_loopw [5, 6] (fun v i wr => ∃ k : Nat, k ≤ n ∧ i = .int .i64 k ∧ OwnS wr w.heap.size v (nmsL k) ∧ Below w.heap.size w wr)
    (fun _ i _ => n - (intOf i).toNat)
  case atStart => exact ⟨0, by omega, rfl, World.ownsRow_nil _ _ _ _, Below.refl _ _⟩
  case round =>
    obtain ⟨k, hk, rfl, hown, hnx⟩ := hrel
    have hlen := nmsL_len k
    by_cases hlt : k < n
    · have hcat := nm_cat k
      have f1 : (k : Int).tmod 26 = ((k % 26 : Nat) : Int) := by rw [Int.tmod_eq_emod_of_nonneg (by omega)]; omega
      have f2 : (k : Int).tdiv 26 = ((k / 26 : Nat) : Int) := by rw [Int.tdiv_eq_ediv_of_nonneg (by omega)]; omega
      have f3 : (k : Int).tdiv 676 = ((k / 676 : Nat) : Int) := by rw [Int.tdiv_eq_ediv_of_nonneg (by omega)]; omega
      have f4 : ((k / 26 : Nat) : Int).tmod 26 = ((k / 26 % 26 : Nat) : Int) := by rw [Int.tmod_eq_emod_of_nonneg (by omega)]; omega
      have hstep := nmsL_step k
      have hA : 97 + k % 26 < 256 := by omega
      have hB : 97 + k / 26 % 26 < 256 := by omega
      have hC : 97 + k / 676 < 256 := by omega
      have hQ : k / 26 < 100 := by omega
      have hA0 : IntKind.i64.wrap ((k % 26 : Nat) : Int) = ((k % 26 : Nat) : Int) := IntWalk.i64_in _ (by omega)
      have hB0 : IntKind.i64.wrap ((k / 26 % 26 : Nat) : Int) = ((k / 26 % 26 : Nat) : Int) := IntWalk.i64_in _ (by omega)
      have hC0 : IntKind.i64.wrap ((k / 676 : Nat) : Int) = ((k / 676 : Nat) : Int) := IntWalk.i64_in _ (by omega)
      have hQ0 : IntKind.i64.wrap ((k / 26 : Nat) : Int) = ((k / 26 : Nat) : Int) := IntWalk.i64_in _ (by omega)
      have hA1 : IntKind.i64.wrap (97 + ((k % 26 : Nat) : Int)) = ((97 + k % 26 : Nat) : Int) := by rw [show (97 + ((k % 26 : Nat) : Int)) = ((97 + k % 26 : Nat) : Int) by omega]; exact IntWalk.i64_in _ (by omega)
      have hB1 : IntKind.i64.wrap (97 + ((k / 26 % 26 : Nat) : Int)) = ((97 + k / 26 % 26 : Nat) : Int) := by rw [show (97 + ((k / 26 % 26 : Nat) : Int)) = ((97 + k / 26 % 26 : Nat) : Int) by omega]; exact IntWalk.i64_in _ (by omega)
      have hC1 : IntKind.i64.wrap (97 + ((k / 676 : Nat) : Int)) = ((97 + k / 676 : Nat) : Int) := by rw [show (97 + ((k / 676 : Nat) : Int)) = ((97 + k / 676 : Nat) : Int) by omega]; exact IntWalk.i64_in _ (by omega)
      have u8w : ∀ x : Nat, x < 256 → IntKind.u8.wrap (x : Int) = (x : Int) := fun x hx => by simp only [IntKind.wrap, IntKind.bits, IntKind.signed]; simp; omega
      have hA2 := u8w _ hA
      have hB2 := u8w _ hB
      have hC2 := u8w _ hC
      clear u8w
      generalize ((97 + k % 26 : Nat) : Int) = A at hA1 hA2 hcat
      generalize ((97 + k / 26 % 26 : Nat) : Int) = B1 at hB1 hB2 hcat
      generalize ((97 + k / 676 : Nat) : Int) = C at hC1 hC2 hcat
      generalize ((k % 26 : Nat) : Int) = A0 at f1 hA0 hA1
      generalize ((k / 26 % 26 : Nat) : Int) = B0 at f4 hB0 hB1
      generalize ((k / 676 : Nat) : Int) = C0 at f3 hC0 hC1
      generalize ((k / 26 : Nat) : Int) = Q at f2 f4 hQ0
      clear hA hB hC hQ
      have hcv := run_convert_bytes_arg (P := Tryd.prog) (wr.alloc (.cells #[.int .u8 A, .int .u8 B1, .int .u8 C] 5)) 55 5 und_bytes9 und_byte9 wr.heap.size 0 3 3 [A, B1, C] rfl (fun i hi => by
        rcases (by omega : i = 0 ∨ i = 1 ∨ i = 2) with rfl | rfl | rfl <;> exact cell_new rfl) 9 und_str
      have hz3 : (strOfNums [A, B1, C]).size = 3 := strOfNums_size _
      generalize strOfNums [A, B1, C] = SS at hcv hz3 hcat
      have HST := Lib.hid hstep
      clear hstep
      go_wp2_with (at_builtin; refine wpList_append_own _ rfl _ _ 22 rfl w.heap.size 9 i0 (.string ⟨#[]⟩) 1 16 und_strs hi hz0 hz1 hz2 rfl (by decide) _ _ _ rfl ((hown.alloc _).alloc _) ⟨wr.heap.size + 1, 0, none⟩ 1 1 [strV (nmL k)] rfl rfl ?c1 strV_one ?c3 ?c4 ?c5 ?_)
      case c1 => intro j u hj; have h9 := strV_cells (w := wr.alloc (.cells #[.int .u8 A, .int .u8 B1, .int .u8 C] 5)) (t := 9) (fr := (0, 0)) j u hj; rwa [World.size_alloc] at h9
      case c3 => rw [hlen]; unfold maxLen; omega
      case c4 => rw [hlen]; omega
      case c5 => have := hnx.size; simp; omega
      intro v' w9 hown' hgrow _
      have hb1 : Below w.heap.size w w9 := ((hnx.alloc hnx.size _).alloc (by have := hnx.size; simp; omega) _).grown hgrow (by have := hnx.size; simp; omega) (fun j hj => (hown.lt j hj).1)
      have hown2 : OwnS w9 w.heap.size v' (nmsL (k + 1)) := by
        unfold OwnS
        rw [nmsL_len, HST.out, List.map_append]
        exact hown'
      clear hown' hgrow hown hnx hcv hcat
      go_wp2_with fail
      go_roundw
      case rel => exact ⟨k + 1, by omega, by go_num, hown2, hb1⟩
      case measure => simp [intOf]; omega
    · have hk4 : k = n := by omega
      subst hk4
      go_wp2_with fail
      go_returns
      exact ⟨_, rfl, hown, hnx⟩
end Go.Proofs.YtdkdpjlkjamemaaDoor
