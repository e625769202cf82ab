/- Layer 25: the short form. -/
import Derived.Test.YtfdmiaoljepcmaaImg2
namespace Go.Proofs.Ytfdmiaoljepcmaa
open Go Go.RowKit
set_option linter.unusedSimpArgs false
set_option linter.unusedVariables false

/-- What the short form of bytes is. -/
inductive ShortOf : List Int → List Int → Prop
  | nil : ShortOf [] []
  | run {l s : List Int} {n : Nat} : 0 < l.length → IsRun l n → 3 ≤ n → ShortOf (l.drop n) s → ShortOf l ([(n : Int) + 125, l.getD 0 0] ++ s)
  | plain {l s : List Int} {m n : Nat} : 0 < l.length → IsRun l m → m < 3 → IsPlain l n → 1 ≤ n → ShortOf (l.drop n) s → ShortOf l ([(n : Int) - 1] ++ l.take n ++ s)
theorem plain_pos {l : List Int} {m n : Nat} (hl : 0 < l.length) (h : IsRun l m) (h3 : m < 3) (k : IsPlain l n) : 1 ≤ n := by
  rcases Nat.eq_zero_or_pos n with e | e
  · subst e
    rcases k.ends with e | e | ⟨r, hr, hr3⟩
    · omega
    · omega
    · rw [List.drop_zero] at hr
      have := h.unique hr
      omega
  · exact e
def szOf : Value → Nat
  | .string b => b.size
  | _ => 0
theorem str_to (l : List Int) (k : Nat) : (strOfNums l).extract 0 k = strOfNums (l.take k) := by
  rw [str_extract, List.drop_zero, Nat.sub_zero]
theorem str_empty {l : List Int} : (strOfNums l).toList.isEmpty = decide (l.length = 0) := by
  rw [ByteArray.toList_eq]
  unfold strOfNums
  cases l with
  | nil => rfl
  | cons a t => simp
theorem own_below {w w' : World} {B n : Nat} {e : TypeId} {v : Value} {xs : List Value} (h : w.ownsRow B e 1 v n xs) (hb : Below w.heap.size w w') : w'.ownsRow B e 1 v n xs := by
  obtain ⟨h0, hcase⟩ := h
  refine ⟨h0, ?_⟩
  rcases hcase with h1 | ⟨g, cap, cur, hv, hg, hh, hr⟩
  · exact .inl h1
  · exact .inr ⟨g, cap, cur, hv, hg, (hb.block g (Array.getElem?_eq_some_iff.1 hh).1).trans hh, hr⟩
theorem bldAt_below {w w' : World} {T e : TypeId} {B b : Nat} {p : Value} {xs : List Value} (h : Lib.BuilderAt T e B b p xs w) (hb : Below w.heap.size w w') : Lib.BuilderAt T e B b p xs w' := by
  obtain ⟨hB, v, hbk, hown, hne⟩ := h
  exact ⟨hB, v, (hb.block b (Array.getElem?_eq_some_iff.1 hbk).1).trans hbk, own_below hown hb, hne⟩
theorem bld_below {w w' : World} {B b : Nat} {xs : List Int} (h : Bld B b xs w) (hb : Below w.heap.size w w') : Bld B b xs w' := h.elim (fun h => .inl (bldAt_below h hb)) (fun h => .inr (bldAt_below h hb))
theorem u8_in {n : Int} (h : 0 ≤ n) (h' : n < 256) : IntKind.u8.wrap n = n := by
  simp only [IntKind.wrap, IntKind.bits, IntKind.signed]; simp; omega

theorem bld_new (w : World) : Bld w.heap.size w.heap.size [] (w.alloc (.cells #[.pointer none, .slice none 0 0] 37)) :=
  Or.inl ⟨Nat.le_refl _, .slice none 0 0, heap_alloc_new w _, World.ownsRow_nil _ _ _ _, by intro h; cases h⟩

set_option maxRecDepth 100000 in
theorem short_much (l : List Int) (w : World) (hl : 65536 < l.length) :
    Calls Try.prog 9 #[.string (strOfNums l)] w fun e w' => e = .returned (.string ⟨#[]⟩) ∧ Below w.heap.size w w' := by
  have hq := Below.refl w.heap.size w
  have hsz := strOfNums_size l
  have hb : decide ((65536 : Int) < (l.length : Int)) = true := decide_eq_true (by omega)
  go_enter Try.func9, Try.ntmps9
  go_wp2_with fail
  go_returns
  exact ⟨by first | rfl | (simp; done), hq⟩

set_option maxRecDepth 100000 in
set_option maxHeartbeats 2000000 in
theorem short_any (l : List Int) (w : World) (hb : IsBytes l) (hl : l.length ≤ 65536) :
    Calls Try.prog 9 #[.string (strOfNums l)] w fun e w' => ∃ s, e = .returned (.string (strOfNums s)) ∧ ShortOf l s ∧ IsBytes s ∧ Below w.heap.size w w' := by
  have hsz := strOfNums_size l
  have hb1 : decide ((65536 : Int) < (l.length : Int)) = false := decide_eq_false (by omega)
  go_enter Try.func9, Try.ntmps9
  go_wp2_with fail
  have hbld := bld_new w
  have hq0 : Below w.heap.size w (w.alloc (.cells #[.pointer none, .slice none 0 0] 37)) := q_alloc (Below.refl _ _) _
  generalize w.alloc (.cells #[.pointer none, .slice none 0 0] 37) = W1 at hbld hq0 ⊢
  go_loopw [0] (fun t wr => ∃ r out, t = .string (strOfNums r) ∧ IsBytes r ∧ IsBytes out ∧ r.length ≤ l.length ∧ out.length ≤ 2 * (l.length - r.length) ∧ Hid (∀ s, ShortOf r s → ShortOf l (out ++ s)) ∧ Bld w.heap.size w.heap.size out wr ∧ Below w.heap.size w wr)
    (fun t _ => szOf t)
  case atStart => exact ⟨l, [], rfl, hb, IsBytes.nil, Nat.le_refl _, by simp, Lib.hid (fun s h => h), hbld, hq0⟩
  case round =>
    clear hq0 hbld hb hb1
    obtain ⟨r, out, rfl, hrb, hob, hrl, hol, hfor, hbld, hnx⟩ := hrel
    have hrs := strOfNums_size r
    by_cases hr0 : 0 < r.length
    · have hne : (strOfNums r).toList.isEmpty = false := by rw [str_empty]; exact decide_eq_false (by omega)
      have HRB := Lib.hid hrb
      have HOB := Lib.hid hob
      clear hrb hob
      go_wp2_with fail
      refine (run_any r _ HRB.out hr0 (by omega)).mono ?_
      rintro e W2 ⟨n, rfl, hrun, hb2⟩
      have hnx2 := q_step hnx hb2
      have hbld2 := bld_below hbld hb2
      clear hb2 hnx hbld
      have hn1 := hrun.pos
      have hn2 := hrun.most
      have hn3 := hrun.len
      have hdl : (r.drop n).length = r.length - n := List.length_drop
      by_cases h3 : 3 ≤ n
      · have g3 : (3 : Int) ≤ (n : Int) := by omega
        have f1 : IntKind.u8.wrap ((n : Int) + 125) = (n : Int) + 125 := u8_in (by omega) (by omega)
        have hg0 : (((strOfNums r)[0]'(by omega)).toNat : Int) = r.getD 0 0 := str_at HRB.out 0 hr0 (by omega)
        have hx := getD_byte HRB.out 0
        have hnext : Hid (∀ s, ShortOf (r.drop n) s → ShortOf l ((out ++ [(n : Int) + 125] ++ [r.getD 0 0]) ++ s)) := Lib.hid (fun s hs => by
          have := hfor.out _ (ShortOf.run hr0 hrun h3 hs)
          simpa using this)
        have hsl := fun ww => run_slice_string_from_if (P := Try.prog) ww 9 (strOfNums r) .i64 (n : Int) und_string
        have hex := str_from r n
        have hke : (n : Int) ≤ (r.length : Int) := by omega
        have hob2 : IsBytes (out ++ [(n : Int) + 125] ++ [r.getD 0 0]) := (HOB.out.append (fun y hy => by rw [List.mem_singleton] at hy; subst hy; omega)).append (fun y hy => by rw [List.mem_singleton] at hy; subst hy; exact hx)
        have HOB2 := Lib.hid hob2
        generalize r.getD 0 0 = x at hg0 hx hnext hob2 HOB2
        clear hob2 hfor
        go_wp2_with fail
        refine (byte_any w.heap.size w.heap.size out ((n : Int) + 125) _ hbld2 (by omega) hnx2.size).mono ?_
        rintro e W3 ⟨rfl, hbld3, hb3⟩
        have hnx3 := hnx2.trans hb3
        clear hbld2 hnx2 hb3
        go_wp2_with fail
        refine (byte_any w.heap.size w.heap.size _ x _ hbld3 (by simp; omega) hnx3.size).mono ?_
        rintro e W4 ⟨rfl, hbld4, hb4⟩
        have hnx4 := hnx3.trans hb4
        clear hbld3 hnx3 hb4
        go_wp2_with fail
        go_roundw
        case rel => exact ⟨r.drop n, _, rfl, HRB.out.drop n, HOB2.out, by omega, by simp; omega, hnext, hbld4, hnx4⟩
        case measure => simp [szOf, strOfNums_size]; omega
      · have g3 : ¬ (3 : Int) ≤ (n : Int) := by omega
        go_wp2_with fail
        refine (plain_any r _ HRB.out (by omega)).mono ?_
        rintro e W3 ⟨k, rfl, hpl, hb3⟩
        have hnx3 := q_step hnx2 hb3
        have hbld3 := bld_below hbld2 hb3
        clear hb3 hnx2 hbld2
        have hk1 := plain_pos hr0 hrun (by omega) hpl
        have hk2 := hpl.most
        have hk3 := hpl.len
        have hdl2 : (r.drop k).length = r.length - k := List.length_drop
        have htl : (r.take k).length = k := by rw [List.length_take]; omega
        have f1 : IntKind.u8.wrap ((k : Int) - 1) = (k : Int) - 1 := u8_in (by omega) (by omega)
        have f2 : IntKind.i64.wrap ((k : Int) - 1) = (k : Int) - 1 := IntWalk.i64_in _ (by omega)
        have hnext : Hid (∀ s, ShortOf (r.drop k) s → ShortOf l ((out ++ [(k : Int) - 1] ++ r.take k) ++ s)) := Lib.hid (fun s hs => by
          have := hfor.out _ (ShortOf.plain hr0 hrun (by omega) hpl hk1 hs)
          simpa using this)
        have hsl := fun ww => run_slice_string_from_if (P := Try.prog) ww 9 (strOfNums r) .i64 (k : Int) und_string
        have hex := str_from r k
        have hto := str_to r k
        have hke : (k : Int) ≤ (r.length : Int) := by omega
        have HOB2 := Lib.hid (show IsBytes (out ++ [(k : Int) - 1] ++ r.take k) from (HOB.out.append (fun y hy => by rw [List.mem_singleton] at hy; subst hy; omega)).append (HRB.out.take k))
        clear hfor hrun hpl
        go_wp2_with fail
        refine (byte_any w.heap.size w.heap.size out ((k : Int) - 1) _ hbld3 (by omega) hnx3.size).mono ?_
        rintro e W4 ⟨rfl, hbld4, hb4⟩
        have hnx4 := hnx3.trans hb4
        clear hbld3 hnx3 hb4
        go_wp2_with fail
        refine (string_any w.heap.size w.heap.size _ (r.take k) _ hbld4 (HRB.out.take k) (by simp; omega) hnx4.size).mono ?_
        rintro e W5 ⟨rfl, hbld5, hb5⟩
        have hnx5 := hnx4.trans hb5
        clear hbld4 hnx4 hb5
        go_wp2_with fail
        go_roundw
        case rel => exact ⟨r.drop k, _, rfl, HRB.out.drop k, HOB2.out, by omega, by simp; omega, hnext, hbld5, hnx5⟩
        case measure => simp [szOf, strOfNums_size]; omega
    · have hr1 : r = [] := List.length_eq_zero_iff.1 (by omega)
      subst hr1
      have hemp : (strOfNums []).toList.isEmpty = true := by rw [str_empty]; rfl
      have hF := hfor.out [] ShortOf.nil
      rw [List.append_nil] at hF
      have HF := Lib.hid hF
      clear hfor hF
      go_wp2_with fail
      refine (str_any w.heap.size w.heap.size out _ hob hbld hnx.size).mono ?_
      rintro e W3 ⟨rfl, hb3⟩
      have hnx3 := hnx.trans hb3
      go_wp2_with fail
      go_returns
      exact ⟨out, by first | rfl | (simp; done), HF.out, hob, hnx3⟩
end Go.Proofs.Ytfdmiaoljepcmaa
