/- Layer 25: the document's answers: what parts say. -/
import Derived.Test.YtfdmiaoljepcmaaImg9
namespace Go.Proofs.Ytfdmiaoljepcmaa
open Go Go.RowKit
set_option linter.unusedSimpArgs false
set_option linter.unusedVariables false

theorem ownU_form {w : World} {B : Nat} {v : Value} {xs : List Int} (h : OwnU w B v xs) : ∃ ao cp, v = .slice ao xs.length cp := by
  rcases h.2 with ⟨hv, h0⟩ | ⟨g, cap, cur, hv, _⟩
  · exact ⟨none, 0, by rw [hv, h0]⟩
  · exact ⟨_, cap, hv⟩

set_option maxRecDepth 100000 in
set_option maxHeartbeats 4000000 in
theorem rlong_any (l : List Int) (g cap : Nat) (w : World) (h : BytesAt w g l) (hb : IsBytes l) (hl : l.length ≤ 100000) (hcap : l.length ≤ cap) :
    Calls Try.prog 10 #[.slice (some ⟨g, 0, none⟩) l.length cap] w fun e w' => ∃ v k R, e = .returned (.tuple #[v, i6 k]) ∧ LongIs [] l R ∧ ((k = 0 ∧ ∃ acc, R = strOk acc ∧ OwnU w' w.heap.size v acc) ∨ (R = strErr k ∧ v = .slice none 0 0 ∧ ¬ k = 0)) ∧ Below w.heap.size w w' := by
  obtain ⟨i0, hi, hz0, hz1, hz2⟩ := info_parts' info_byte
  have hq := Below.refl w.heap.size w
  have HO := Lib.hid h
  have HB := Lib.hid hb
  have hbig0 : decide ((131072 : Int) < (l.length : Int)) = false := decide_eq_false (by omega)
  clear h hb
  go_enter Try.func10, Try.ntmps10
  go_wp2_with fail
  go_loopw [4, 5] (fun v i wr => ∃ (a : Nat) (acc : List Int), i = .int .i64 a ∧ a ≤ l.length ∧ OwnU wr w.heap.size v acc ∧ acc.length ≤ 65536 ∧ Hid (∀ R, LongIs acc (l.drop a) R → LongIs [] l R) ∧ Below w.heap.size w wr)
    (fun _ i _ => l.length - (intOf i).toNat)
  case atStart => exact ⟨0, [], rfl, Nat.zero_le _, World.ownsRow_nil _ _ _ _, by simp, Lib.hid (fun s hs => by simpa using hs), hq⟩
  case round =>
    clear hq hbig0
    obtain ⟨a, acc, rfl, hal, hown, hol, hfor, hnx⟩ := hrel
    have hdl : (l.drop a).length = l.length - a := List.length_drop
    have HW := Lib.hid hown
    clear hown
    obtain ⟨W0, rfl⟩ : ∃ W0, W0 = wr := ⟨_, rfl⟩
    by_cases hlt : a < l.length
    · have hai : (a : Int) < (l.length : Int) := by omega
      have hc0 : W0.cell? ⟨g, a, none⟩ = some (u8v (l.getD a 0)) := (HO.out.below hnx).at_ a hlt
      have hx := getD_byte HB.out a
      have hx0 : (l.drop a).getD 0 0 = l.getD a 0 := by rw [getD_drop, Nat.add_zero]
      have w1 : IntKind.i64.wrap ((a : Int) + 1) = (a : Int) + 1 := IntWalk.i64_in _ (by omega)
      have a0 : (0 : Int) ≤ (a : Int) := by omega
      by_cases h128 : l.getD a 0 < 128
      · by_cases hroom : (a : Int) + (l.getD a 0 + 2) ≤ (l.length : Int)
        · have HPI := Lib.hid (show PartIs (l.drop a) (((l.drop a).drop 1).take ((l.getD a 0).toNat + 1)) ((l.getD a 0).toNat + 2) from .inr ⟨by rw [hx0]; exact h128, by rw [hx0]; omega, by rw [hx0], by rw [hx0]⟩)
          rw [List.drop_drop] at HPI
          obtain ⟨x, hxe⟩ : ∃ x : Nat, l.getD a 0 = (x : Int) := ⟨(l.getD a 0).toNat, by omega⟩
          rw [hxe] at hc0 hx h128 hroom HPI
          rw [Int.toNat_natCast] at HPI
          clear hxe hx0
          have f1 : IntKind.i64.wrap (x : Int) = (x : Int) := IntWalk.i64_in _ (by omega)
          have f2 : IntKind.i64.wrap ((a : Int) + 1 + (x : Int)) = (a : Int) + 1 + (x : Int) := IntWalk.i64_in _ (by omega)
          have f3 : IntKind.i64.wrap ((a : Int) + 1 + (x : Int) + 1) = (a : Int) + 1 + (x : Int) + 1 := IntWalk.i64_in _ (by omega)
          have g1 : ¬ (l.length : Int) < (a : Int) + 1 + (x : Int) + 1 := by omega
          have g2 : (x : Int) < 128 := by omega
          have z1 : (0 : Int) ≤ (a : Int) + 1 + (x : Int) + 1 := by omega
          have z2 : (a : Int) + 1 + (x : Int) + 1 ≤ (cap : Int) := by omega
          have z3 : (a : Int) + 1 ≤ (a : Int) + 1 + (x : Int) + 1 := by omega
          have z4 : ((a : Int) + 1 + (x : Int) + 1).toNat - (a + 1) = x + 1 := by omega
          have z5 : ¬ cap = a + 1 := by omega
          have z6 : max ((a : Int) + 1 + (x : Int) + 1) 0 = (a : Int) + 1 + (x : Int) + 1 := by omega
          have z8 : ((a : Int) + 1).toNat = a + 1 := by omega
          have z9 : (0 : Int) ≤ (a : Int) + 1 := by omega
          obtain ⟨n1, n2', n3⟩ := slice_news (HO.out.below hnx) (a + 1) (x + 1) (by omega)
          have htl : ((l.drop (a + 1)).take (x + 1)).length = x + 1 := by rw [List.length_take, List.length_drop]; omega
          have HN1 := Lib.hid n1
          have HN2 := Lib.hid n2'
          have HN3 := Lib.hid n3
          clear n1 n2' n3
          generalize (l.drop (a + 1)).take (x + 1) = ys at HPI HN1 HN2 HN3 htl
          go_wp2_with (first
            | (at_builtin; refine wpList_append_own _ rfl _ _ 28 rfl w.heap.size 5 i0 (.int .u8 0) 1 1 und_bytes hi hz0 hz1 hz2 rfl (by decide) _ _ _ rfl HW.out ⟨g, a + 1, none⟩ (x + 1) _ (ys.map u8v) rfl HN1.out HN2.out HN3.out ?c3 ?c4 ?c5 ?_)
            | fail)
          case c3 => unfold maxLen; omega
          case c4 => omega
          case c5 => exact hnx.size
          intro v' w4 hown' hgrow _
          have hnx4 : Below w.heap.size w w4 := hnx.grown hgrow hnx.size (fun j hj => (HW.out.lt j hj).1)
          have hown4 : OwnU w4 w.heap.size v' (acc ++ ys) := by
            unfold OwnU
            rw [List.length_append, List.map_append, htl]
            first | exact hown' | simpa using hown'
          have HW4 := Lib.hid hown4
          have hfit : a + (x + 2) ≤ l.length := by omega
          clear hown' hgrow hnx HW hown4 HN1 HN2 HN3 z1 z2 z3 z4 z5 z6 z8 z9 hroom g1 f1 w1
          obtain ⟨ao, cp, rfl⟩ := ownU_form HW4.out
          have hbl : (ys).length ≤ 1000 := by rw [htl]; omega
          have hfull : (acc ++ ys).length = acc.length + (ys).length := List.length_append
          by_cases hbig : 65536 < acc.length + (ys).length
          · have HF := Lib.hid (hfor.out _ (LongIs.long (by omega) HPI.out hbig))
            have g9 : decide ((65536 : Int) < ((acc ++ ys).length : Int)) = true := decide_eq_true (by omega)
            have g10 : (65536 : Int) < ((acc ++ ys).length : Int) := by omega
            clear hfor
            clear hfull hbig
            generalize acc ++ ys = acc2 at g9 g10 HW4 ⊢
            go_wp2_with fail
            go_returns
            first | exact ⟨.slice none 0 0, 4, by first | rfl | (simp; done), _, HF.out, .inr ⟨rfl, rfl, by omega⟩, hnx4⟩ | exact ⟨.slice none 0 0, 4, _, by first | rfl | (simp; done), HF.out, .inr ⟨rfl, rfl, by omega⟩, hnx4⟩
          · have hnext : Hid (∀ R, LongIs (acc ++ ys) (l.drop (a + (x + 2))) R → LongIs [] l R) := Lib.hid (fun R h => hfor.out _ (LongIs.step (by omega) HPI.out (by omega) (by rw [List.drop_drop]; exact h)))
            have g9 : decide ((65536 : Int) < ((acc ++ ys).length : Int)) = false := decide_eq_false (by omega)
            have g10 : ¬ (65536 : Int) < ((acc ++ ys).length : Int) := by omega
            have g11 : (acc ++ ys).length ≤ 65536 := by omega
            clear hfor
            clear hfull hbig
            generalize acc ++ ys = acc2 at g9 g10 g11 HW4 hnext ⊢
            go_wp2_with fail
            go_roundw
            case rel => exact ⟨a + (x + 2), _, by go_num, by omega, HW4.out, by omega, hnext, hnx4⟩
            case measure => simp [intOf]; omega
        · have HF := Lib.hid (hfor.out _ (LongIs.short (s := l.drop a) ⟨by omega, .inr ⟨by rw [hx0]; exact h128, by rw [hx0]; omega⟩⟩))
          generalize l.getD a 0 = x at hc0 hx h128 hroom
          have f1 : IntKind.i64.wrap x = x := IntWalk.i64_in _ (by omega)
          have f2 : IntKind.i64.wrap ((a : Int) + 1 + x) = (a : Int) + 1 + x := IntWalk.i64_in _ (by omega)
          have f3 : IntKind.i64.wrap ((a : Int) + 1 + x + 1) = (a : Int) + 1 + x + 1 := IntWalk.i64_in _ (by omega)
          have g1 : (l.length : Int) < (a : Int) + 1 + x + 1 := by omega
          clear hfor hx0
          go_wp2_with fail
          go_returns
          first | exact ⟨.slice none 0 0, 3, by first | rfl | (simp; done), _, HF.out, .inr ⟨rfl, rfl, by omega⟩, hnx⟩ | exact ⟨.slice none 0 0, 3, _, by first | rfl | (simp; done), HF.out, .inr ⟨rfl, rfl, by omega⟩, hnx⟩
      · by_cases hroom : a + 2 ≤ l.length
        · have HPI := Lib.hid (show PartIs (l.drop a) (List.replicate (l.getD a 0 - 125).toNat (l.getD (a + 1) 0)) 2 from .inl ⟨by rw [hx0]; omega, by omega, by rw [hx0, getD_drop], rfl⟩)
          have hc1 : W0.cell? ⟨g, a + 1, none⟩ = some (u8v (l.getD (a + 1) 0)) := (HO.out.below hnx).at_ (a + 1) (by omega)
          have hcell : ∀ ws, Below w.heap.size w ws → ws.cell? ⟨g, a + 1, none⟩ = some (u8v (l.getD (a + 1) 0)) := fun ws hs => (HO.out.below hs).at_ (a + 1) (by omega)
          have HCL := Lib.hid hcell
          obtain ⟨c, hce⟩ : ∃ c : Nat, (c : Int) = l.getD a 0 - 125 := ⟨(l.getD a 0 - 125).toNat, by omega⟩
          rw [show (l.getD a 0 - 125).toNat = c by omega] at HPI
          generalize l.getD (a + 1) 0 = y at HPI hc1 hcell HCL
          generalize l.getD a 0 = x at hc0 hx h128 hce
          have f1 : IntKind.i64.wrap x = x := IntWalk.i64_in _ (by omega)
          have f2 : IntKind.i64.wrap (x - 125) = (c : Int) := by rw [hce]; exact IntWalk.i64_in _ (by omega)
          have g1 : ¬ (l.length : Int) ≤ (a : Int) + 1 := by omega
          have g2 : ¬ x < 128 := by omega
          have hcb : c ≤ 130 := by omega
          have hce2 := Lib.hid hce
          have a1 : (a : Int) + 1 < (l.length : Int) := by omega
          have a2 : (0 : Int) ≤ (a : Int) + 1 := by omega
          have a3 : ((a : Int) + 1).toNat = a + 1 := by omega
          clear hx0 hcell hc1 hce
          go_wp2_with fail
          go_loopw [4, 7] (fun v q ws => ∃ j : Nat, q = .int .i64 j ∧ j ≤ c ∧ OwnU ws w.heap.size v (acc ++ List.replicate j y) ∧ Below w.heap.size w ws)
            (fun _ q _ => c - (intOf q).toNat)
          case atStart => exact ⟨0, rfl, Nat.zero_le _, by rw [List.replicate_zero, List.append_nil]; exact HW.out, hnx⟩
          case round =>
            obtain ⟨j, rfl, hjc, hown, hin⟩ := hrel
            have HWJ := Lib.hid hown
            have hcy := HCL.out _ hin
            have hnxj := hin
            have hlj : (acc ++ List.replicate j y).length = acc.length + j := by rw [List.length_append, List.length_replicate]
            clear hown
            by_cases hjl : j < c
            · have hji : (j : Int) < (c : Int) := by omega
              go_wp2_with (first
                | (at_builtin; refine wpList_append_own _ rfl _ _ 28 rfl w.heap.size 5 i0 (.int .u8 0) 1 1 und_bytes hi hz0 hz1 hz2 rfl (by decide) _ _ _ rfl (HWJ.out.alloc _) _ 1 1 [u8v y] rfl rfl ?c1 ?c2 ?c3 ?c4 ?c5 ?_)
                | fail)
              try (case c1 =>
                intro j u hj
                match j, hj with
                | 0, hj => simp at hj; subst hj; exact cell_new rfl)
              case c2 => first | rfl | (intro u hu; simp at hu; subst hu; rfl)
              case c3 => rw [hlj]; unfold maxLen; omega
              case c4 => rw [hlj]; omega
              case c5 => have := hnxj.size; simp; omega
              intro v' w5 hown' hgrow _
              have hnx5 : Below w.heap.size w w5 := (hnxj.alloc hnxj.size _).grown hgrow (by have := hnxj.size; simp; omega) (fun q hq => (HWJ.out.lt q hq).1)
              have hown5 : OwnU w5 w.heap.size v' (acc ++ List.replicate (j + 1) y) := by
                have e1 : (acc ++ List.replicate (j + 1) y).length = (acc ++ List.replicate j y).length + 1 := by simp; omega
                have e2 : (acc ++ List.replicate (j + 1) y).map u8v = (acc ++ List.replicate j y).map u8v ++ [u8v y] := by rw [List.replicate_succ', ← List.append_assoc, List.map_append]; rfl
                unfold OwnU
                rw [e1, e2]
                first | exact hown' | simpa using hown'
              clear hown' hgrow hnxj HWJ hin
              go_wp2_with fail
              go_roundw
              case rel => exact ⟨j + 1, by go_num, by omega, hown5, hnx5⟩
              case measure => simp [intOf]; omega
            · have hjc2 : j = c := by omega
              subst hjc2
              have hlr : (List.replicate j y).length = j := List.length_replicate
              have hji : ¬ (j : Int) < (j : Int) := by omega
              have hrm : a + 2 ≤ l.length := hroom
              have w2 : IntKind.i64.wrap ((a : Int) + 1 + 1) = (a : Int) + 2 := by rw [show (a : Int) + 1 + 1 = (a : Int) + 2 by omega]; exact IntWalk.i64_in _ (by omega)
              clear hroom hx h128 g1 g2 f1 w1 hin HCL hlj hcy
              generalize List.replicate j y = ys at HPI HWJ hlr
              obtain ⟨ao, cp, rfl⟩ := ownU_form HWJ.out
              have hbl : (ys).length ≤ 1000 := by rw [hlr]; omega
              have hfull : (acc ++ ys).length = acc.length + (ys).length := List.length_append
              by_cases hbig : 65536 < acc.length + (ys).length
              · have HF := Lib.hid (hfor.out _ (LongIs.long (by omega) HPI.out hbig))
                have g9 : decide ((65536 : Int) < ((acc ++ ys).length : Int)) = true := decide_eq_true (by omega)
                have g10 : (65536 : Int) < ((acc ++ ys).length : Int) := by omega
                clear hfor
                clear hfull hbig
                generalize acc ++ ys = acc2 at g9 g10 HWJ ⊢
                go_wp2_with fail
                go_returns
                first | exact ⟨.slice none 0 0, 4, by first | rfl | (simp; done), _, HF.out, .inr ⟨rfl, rfl, by omega⟩, hnxj⟩ | exact ⟨.slice none 0 0, 4, _, by first | rfl | (simp; done), HF.out, .inr ⟨rfl, rfl, by omega⟩, hnxj⟩
              · have hnext : Hid (∀ R, LongIs (acc ++ ys) (l.drop (a + 2)) R → LongIs [] l R) := Lib.hid (fun R h => hfor.out _ (LongIs.step (by omega) HPI.out (by omega) (by rw [List.drop_drop]; exact h)))
                have g9 : decide ((65536 : Int) < ((acc ++ ys).length : Int)) = false := decide_eq_false (by omega)
                have g10 : ¬ (65536 : Int) < ((acc ++ ys).length : Int) := by omega
                have g11 : (acc ++ ys).length ≤ 65536 := by omega
                clear hfor
                clear hfull hbig
                generalize acc ++ ys = acc2 at g9 g10 g11 HWJ hnext ⊢
                go_wp2_with fail
                go_roundw
                case rel => exact ⟨a + 2, _, by go_num, by omega, HWJ.out, by omega, hnext, hnxj⟩
                case measure => simp [intOf]; omega
        · have HF := Lib.hid (hfor.out _ (LongIs.short (s := l.drop a) ⟨by omega, .inl ⟨by rw [hx0]; omega, by omega⟩⟩))
          generalize l.getD a 0 = x at hc0 hx h128
          have f1 : IntKind.i64.wrap x = x := IntWalk.i64_in _ (by omega)
          have g1 : (l.length : Int) ≤ (a : Int) + 1 := by omega
          have g2 : ¬ x < 128 := by omega
          clear hfor hx0
          go_wp2_with fail
          go_returns
          first | exact ⟨.slice none 0 0, 3, by first | rfl | (simp; done), _, HF.out, .inr ⟨rfl, rfl, by omega⟩, hnx⟩ | exact ⟨.slice none 0 0, 3, _, by first | rfl | (simp; done), HF.out, .inr ⟨rfl, rfl, by omega⟩, hnx⟩
    · have hae : a = l.length := by omega
      subst hae
      have hF := hfor.out (strOk acc) (by rw [List.drop_length]; exact LongIs.nil)
      have HF := Lib.hid hF
      clear hfor hF
      go_wp2_with fail
      go_returns
      first | exact ⟨_, 0, by first | rfl | (simp; done), _, HF.out, .inl ⟨rfl, acc, rfl, HW.out⟩, hnx⟩ | exact ⟨_, 0, _, by first | rfl | (simp; done), HF.out, .inl ⟨rfl, acc, rfl, HW.out⟩, hnx⟩
end Go.Proofs.Ytfdmiaoljepcmaa
