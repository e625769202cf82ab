/- Layer 25: the bytes that parts say. -/
import Derived.Test.YtfdmiaoljepcmaaImg4
namespace Go.Proofs.Ytfdmiaoljepcmaa
open Go Go.RowKit
set_option linter.unusedSimpArgs false
set_option linter.unusedVariables false

/-- What parts say behind bytes that are said already. -/
inductive LongIs : List Int → List Int → Value → Prop
  | nil {acc : List Int} : LongIs acc [] (strOk acc)
  | short {acc s : List Int} : NoPart s → LongIs acc s (strErr 3)
  | long {acc s b : List Int} {n : Nat} : 0 < s.length → PartIs s b n → 65536 < acc.length + b.length → LongIs acc s (strErr 4)
  | step {acc s b : List Int} {n : Nat} {R : Value} : 0 < s.length → PartIs s b n → acc.length + b.length ≤ 65536 → LongIs (acc ++ b) (s.drop n) R → LongIs acc s R

theorem part_cases (s : List Int) (h : 0 < s.length) : NoPart s ∨ ∃ b n, PartIs s b n := by
  by_cases h1 : 128 ≤ s.getD 0 0
  · by_cases h2 : 2 ≤ s.length
    · exact .inr ⟨_, _, .inl ⟨h1, h2, rfl, rfl⟩⟩
    · exact .inl ⟨h, .inl ⟨h1, by omega⟩⟩
  · by_cases h2 : s.getD 0 0 + 2 ≤ (s.length : Int)
    · exact .inr ⟨_, _, .inr ⟨by omega, h2, rfl, rfl⟩⟩
    · exact .inl ⟨h, .inr ⟨by omega, by omega⟩⟩
theorem part_facts {s b : List Int} {n : Nat} (hs : IsBytes s) (h : PartIs s b n) : IsBytes b ∧ 1 ≤ n ∧ n ≤ s.length ∧ 0 < s.length ∧ b.length ≤ 130 := by
  have hx := getD_byte hs 0
  rcases h with ⟨h1, h2, rfl, rfl⟩ | ⟨h1, h2, rfl, rfl⟩
  · refine ⟨fun y hy => ?_, by omega, h2, by omega, by rw [List.length_replicate]; omega⟩
    rw [List.mem_replicate] at hy
    rw [hy.2]
    exact getD_byte hs 1
  · exact ⟨(hs.drop 1).take _, by omega, by omega, by omega, by rw [List.length_take]; omega⟩
theorem part_is {s b : List Int} {n : Nat} (w : World) (hs : IsBytes s) (hl : s.length ≤ 1000000) (h : PartIs s b n) :
    Calls Try.prog 12 #[.string (strOfNums s)] w fun e w' => e = .returned (.tuple #[.string (strOfNums b), i6 n]) ∧ Below w.heap.size w w' := by
  have hx := getD_byte hs 0
  rcases h with ⟨h1, h2, rfl, rfl⟩ | ⟨h1, h2, rfl, rfl⟩
  · exact part_run s w hs h2 hl h1
  · have := part_plain s w hs h2 hl h1
    rw [show (((s.getD 0 0).toNat + 2 : Nat) : Int) = s.getD 0 0 + 2 by omega]
    exact this

set_option maxRecDepth 100000 in
theorem long_much (l : List Int) (w : World) (hl : 131072 < l.length) :
    Calls Try.prog 8 #[.string (strOfNums l)] w fun e w' => e = .returned (strErr 4) ∧ Below w.heap.size w w' := by
  have hq := Below.refl w.heap.size w
  have hsz := strOfNums_size l
  have hb : decide ((131072 : Int) < (l.length : Int)) = true := decide_eq_true (by omega)
  go_enter Try.func8, Try.ntmps8
  go_wp2_with fail
  go_returns
  exact ⟨by first | rfl | (simp; done), hq⟩

set_option maxRecDepth 100000 in
set_option maxHeartbeats 2000000 in
theorem long_any (s : List Int) (w : World) (hb : IsBytes s) (hl : s.length ≤ 131072) :
    Calls Try.prog 8 #[.string (strOfNums s)] w fun e w' => ∃ R, e = .returned R ∧ LongIs [] s R ∧ Below w.heap.size w w' := by
  have hsz := strOfNums_size s
  have hb1 : decide ((131072 : Int) < (s.length : Int)) = false := decide_eq_false (by omega)
  go_enter Try.func8, Try.ntmps8
  go_wp2_with fail
  have hbld := bld_new w
  have hq0 : Below w.heap.size w (w.alloc (.cells #[.pointer none, .slice none 0 0] 37)) := q_alloc (Below.refl _ _) _
  generalize w.alloc (.cells #[.pointer none, .slice none 0 0] 37) = W1 at hbld hq0 ⊢
  go_loopw [0] (fun t wr => ∃ r acc, t = .string (strOfNums r) ∧ IsBytes r ∧ IsBytes acc ∧ r.length ≤ s.length ∧ acc.length ≤ 65536 ∧ Hid (∀ R, LongIs acc r R → LongIs [] s R) ∧ Bld w.heap.size w.heap.size acc wr ∧ Below w.heap.size w wr)
    (fun t _ => szOf t)
  case atStart => exact ⟨s, [], rfl, hb, IsBytes.nil, Nat.le_refl _, by simp, Lib.hid (fun R h => h), hbld, hq0⟩
  case round =>
    clear hq0 hbld hb hb1
    obtain ⟨r, acc, rfl, hrb, hob, hrl, hol, hfor, hbld, hnx⟩ := hrel
    have hrs := strOfNums_size r
    have HRB := Lib.hid hrb
    have HOB := Lib.hid hob
    clear hrb hob
    by_cases hr0 : 0 < r.length
    · have hne : (strOfNums r).toList.isEmpty = false := by rw [str_empty]; exact decide_eq_false (by omega)
      rcases part_cases r hr0 with hno | ⟨b, n, hp⟩
      · have HF := Lib.hid (hfor.out _ (LongIs.short hno))
        have HNO := Lib.hid hno
        clear hfor hno
        go_wp2_with fail
        refine (part_none r _ HRB.out (by omega) HNO.out).mono ?_
        rintro e W2 ⟨rfl, hb2⟩
        have hnx2 := q_step hnx hb2
        go_wp2_with fail
        go_returns
        exact ⟨_, by first | rfl | (simp; done), HF.out, hnx2⟩
      · obtain ⟨pb, p1, p2, p3, p4⟩ := part_facts HRB.out hp
        have HP := Lib.hid hp
        have HPB := Lib.hid pb
        have hbs := strOfNums_size b
        have gn : ¬ (n : Int) = 0 := by omega
        clear hp pb
        go_wp2_with fail
        refine (part_is _ HRB.out (by omega) HP.out).mono ?_
        rintro e W2 ⟨rfl, hb2⟩
        have hnx2 := q_step hnx hb2
        have hbld2 := bld_below hbld hb2
        clear hb2 hnx hbld
        go_wp2_with fail
        refine (len_any w.heap.size w.heap.size acc _ hbld2).mono ?_
        rintro e W3 ⟨rfl, rfl⟩
        by_cases hbig : 65536 < acc.length + b.length
        · have HF := Lib.hid (hfor.out _ (LongIs.long hr0 HP.out hbig))
          have g1 : decide ((65536 : Int) < (acc.length : Int) + (b.length : Int)) = true := decide_eq_true (by omega)
          clear hfor hbld2
          go_wp2_with fail
          go_returns
          exact ⟨_, by first | rfl | (simp; done), HF.out, hnx2⟩
        · have g1 : decide ((65536 : Int) < (acc.length : Int) + (b.length : Int)) = false := decide_eq_false (by omega)
          have hnext : Hid (∀ R, LongIs (acc ++ b) (r.drop n) R → LongIs [] s R) := Lib.hid (fun R h => hfor.out _ (LongIs.step hr0 HP.out (by omega) h))
          have hsl := fun ww => run_slice_string_from_if (P := Try.prog) ww 9 (strOfNums r) .i64 (n : Int) und_string
          have hex := str_from r n
          have hke : (n : Int) ≤ (r.length : Int) := by omega
          have hdl : (r.drop n).length = r.length - n := List.length_drop
          clear hfor
          go_wp2_with fail
          refine (string_any w.heap.size w.heap.size acc b _ hbld2 HPB.out (by omega) hnx2.size).mono ?_
          rintro e W4 ⟨rfl, hbld4, hb4⟩
          have hnx4 := hnx2.trans hb4
          clear hbld2 hb4
          go_wp2_with fail
          go_roundw
          case rel => exact ⟨r.drop n, _, rfl, HRB.out.drop n, HOB.out.append HPB.out, by omega, by rw [List.length_append]; omega, hnext, hbld4, hnx4⟩
          case measure => simp [szOf, strOfNums_size]; omega
    · have hr1 : r = [] := List.length_eq_zero_iff.1 (by omega)
      subst hr1
      have hemp : (strOfNums []).toList.isEmpty = true := by rw [str_empty]; rfl
      have HF := Lib.hid (hfor.out _ LongIs.nil)
      clear hfor
      go_wp2_with fail
      refine (str_any w.heap.size w.heap.size acc _ HOB.out hbld hnx.size).mono ?_
      rintro e W3 ⟨rfl, hb3⟩
      have hnx3 := hnx.trans hb3
      go_wp2_with fail
      go_returns
      exact ⟨_, by first | rfl | (simp; done), HF.out, hnx3⟩
end Go.Proofs.Ytfdmiaoljepcmaa
