/- Layer 38: an argument that is a slice of acts (a number, a grab, a slice): what a walk wants of it. -/
import Derived.Test.YtmcndiljldbkcaaPs1
import Derived.Deep.Slices
import Derived.ChangeSlices
import Derived.ProofKit
namespace Go.Proofs.Ytmcndiljldbkcaa
open Go Go.RowKit Go.WideShapes Go.ChangeShapes
set_option linter.unusedSimpArgs false
set_option linter.unusedVariables false
structure Ac where
  kd : Int
  g : G
  ia : Option Addr
  il : Nat
  ic : Nat
instance : Inhabited Ac := ⟨⟨0, ⟨0, 0, false, 0, 0, false, 0, 0, 0⟩, none, 0, 0⟩⟩
def acL (x : Ac) : List Value := i6 x.kd :: (gL x.g ++ [.slice x.ia x.il x.ic])
theorem acL_len (x : Ac) : (acL x).length = 11 := rfl
/-- The value is a slice of these acts, in old memory. -/
def IsAct (w : World) (v : Value) (xs : List Ac) : Prop :=
  ∃ A cap, v = .slice A xs.length cap ∧ (0 < xs.length → ∃ b off, A = some ⟨b, off, none⟩ ∧ b < w.heap.size ∧ ∀ (k : Nat) (x : Ac), xs[k]? = some x → ∀ (j : Nat) (u : Value), (acL x)[j]? = some u → w.cell? ⟨b, off + k * 11 + j, none⟩ = some u)
theorem IsAct.below {w w' : World} {v : Value} {xs : List Ac} (h : IsAct w v xs) (hb : Below w.heap.size w w') : IsAct w' v xs := by
  obtain ⟨A, cap, rfl, hf⟩ := h
  refine ⟨A, cap, rfl, fun h0 => ?_⟩
  obtain ⟨b, off, rfl, h1, h2⟩ := hf h0
  exact ⟨b, off, rfl, Nat.lt_of_lt_of_le h1 hb.size, fun k x hk j u hj => cell_below hb (h2 k x hk j u hj)⟩
theorem act_c0 : Try.prog.cellsOf 53 = 11 := by kernel_rfl
theorem act_c1 : Try.prog.cellsOf 35 = 9 := by kernel_rfl
theorem act_c2 : Try.prog.cellsOf 3 = 1 := by kernel_rfl
theorem act_c3 : Try.prog.cellsOf 31 = 1 := by kernel_rfl
theorem act_c4 : Try.prog.cellsOf 33 = 1 := by kernel_rfl
theorem act_c5 : Try.prog.cellsOf 4 = 1 := by kernel_rfl
section
variable {H : Type} {enc : TypeId × Value → H}
theorem act_cells {W : World} {fuel : Nat} {cs : List Value} {y : DataW H × List MemPlace} (h : DataW.trod enc Try.prog W 0 (fun _ => true) true fuel 53 cs = some y) : ∃ x : Ac, cs = acL x := by
  obtain ⟨xs, n, _, _, hlen, hxl, hf⟩ := DataW.trod_struct Try.underlying53 h
  rw [act_c0] at hlen
  match cs, hlen with
  | [c0, c1, c2, c3, c4, c5, c6, c7, c8, c9, c10], _ =>
    match xs, hxl with
    | [z0, z1, z2], _ =>
      have k0 : DataW.trod enc Try.prog W 0 (fun _ => true) true n 3 (List.take (Try.prog.cellsOf 3) (List.drop 0 [c0, c1, c2, c3, c4, c5, c6, c7, c8, c9, c10])) = some z0 := hf 0 _ rfl
      have k1 : DataW.trod enc Try.prog W 0 (fun _ => true) true n 35 (List.take (Try.prog.cellsOf 35) (List.drop 1 [c0, c1, c2, c3, c4, c5, c6, c7, c8, c9, c10])) = some z1 := hf 1 _ rfl
      have k2 : DataW.trod enc Try.prog W 0 (fun _ => true) true n 31 (List.take (Try.prog.cellsOf 31) (List.drop 10 [c0, c1, c2, c3, c4, c5, c6, c7, c8, c9, c10])) = some z2 := hf 2 _ rfl
      rw [act_c2] at k0
      rw [act_c1] at k1
      rw [act_c3] at k2
      obtain ⟨q0, e0, _⟩ := DataW.trod_int Try.underlying3 (show DataW.trod enc Try.prog W 0 (fun _ => true) true n 3 [c0] = some z0 from k0)
      have k1' : DataW.trod enc Try.prog W 0 (fun _ => true) true n 35 [c1, c2, c3, c4, c5, c6, c7, c8, c9] = some z1 := k1
      have k2' : DataW.trod enc Try.prog W 0 (fun _ => true) true n 31 [c10] = some z2 := k2
      obtain ⟨ys, n', _, _, _, hyl, hg⟩ := DataW.trod_struct Try.underlying35 k1'
      match ys, hyl with
      | [y0, y1, y2, y3, y4, y5, y6, y7, y8], _ =>
        have g0 : DataW.trod enc Try.prog W 0 (fun _ => true) true n' 3 (List.take (Try.prog.cellsOf 3) (List.drop 0 [c1, c2, c3, c4, c5, c6, c7, c8, c9])) = some y0 := hg 0 _ rfl
        rw [act_c2] at g0
        obtain ⟨q1, e1, _⟩ := DataW.trod_int (k := .i64) (by kernel_rfl : Try.prog.underlying 3 = some (.int .i64)) (show DataW.trod enc Try.prog W 0 (fun _ => true) true n' 3 [c1] = some y0 from g0)
        have g1 : DataW.trod enc Try.prog W 0 (fun _ => true) true n' 33 (List.take (Try.prog.cellsOf 33) (List.drop 1 [c1, c2, c3, c4, c5, c6, c7, c8, c9])) = some y1 := hg 1 _ rfl
        rw [act_c4] at g1
        obtain ⟨q2, e2, _⟩ := DataW.trod_int (k := .u32) (by kernel_rfl : Try.prog.underlying 33 = some (.int .u32)) (show DataW.trod enc Try.prog W 0 (fun _ => true) true n' 33 [c2] = some y1 from g1)
        have g2 : DataW.trod enc Try.prog W 0 (fun _ => true) true n' 4 (List.take (Try.prog.cellsOf 4) (List.drop 2 [c1, c2, c3, c4, c5, c6, c7, c8, c9])) = some y2 := hg 2 _ rfl
        rw [act_c5] at g2
        obtain ⟨q3, e3, _⟩ := DataW.trod_bool Try.underlying4 (show DataW.trod enc Try.prog W 0 (fun _ => true) true n' 4 [c3] = some y2 from g2)
        have g3 : DataW.trod enc Try.prog W 0 (fun _ => true) true n' 3 (List.take (Try.prog.cellsOf 3) (List.drop 3 [c1, c2, c3, c4, c5, c6, c7, c8, c9])) = some y3 := hg 3 _ rfl
        rw [act_c2] at g3
        obtain ⟨q4, e4, _⟩ := DataW.trod_int (k := .i64) (by kernel_rfl : Try.prog.underlying 3 = some (.int .i64)) (show DataW.trod enc Try.prog W 0 (fun _ => true) true n' 3 [c4] = some y3 from g3)
        have g4 : DataW.trod enc Try.prog W 0 (fun _ => true) true n' 3 (List.take (Try.prog.cellsOf 3) (List.drop 4 [c1, c2, c3, c4, c5, c6, c7, c8, c9])) = some y4 := hg 4 _ rfl
        rw [act_c2] at g4
        obtain ⟨q5, e5, _⟩ := DataW.trod_int (k := .i64) (by kernel_rfl : Try.prog.underlying 3 = some (.int .i64)) (show DataW.trod enc Try.prog W 0 (fun _ => true) true n' 3 [c5] = some y4 from g4)
        have g5 : DataW.trod enc Try.prog W 0 (fun _ => true) true n' 4 (List.take (Try.prog.cellsOf 4) (List.drop 5 [c1, c2, c3, c4, c5, c6, c7, c8, c9])) = some y5 := hg 5 _ rfl
        rw [act_c5] at g5
        obtain ⟨q6, e6, _⟩ := DataW.trod_bool Try.underlying4 (show DataW.trod enc Try.prog W 0 (fun _ => true) true n' 4 [c6] = some y5 from g5)
        have g6 : DataW.trod enc Try.prog W 0 (fun _ => true) true n' 3 (List.take (Try.prog.cellsOf 3) (List.drop 6 [c1, c2, c3, c4, c5, c6, c7, c8, c9])) = some y6 := hg 6 _ rfl
        rw [act_c2] at g6
        obtain ⟨q7, e7, _⟩ := DataW.trod_int (k := .i64) (by kernel_rfl : Try.prog.underlying 3 = some (.int .i64)) (show DataW.trod enc Try.prog W 0 (fun _ => true) true n' 3 [c7] = some y6 from g6)
        have g7 : DataW.trod enc Try.prog W 0 (fun _ => true) true n' 3 (List.take (Try.prog.cellsOf 3) (List.drop 7 [c1, c2, c3, c4, c5, c6, c7, c8, c9])) = some y7 := hg 7 _ rfl
        rw [act_c2] at g7
        obtain ⟨q8, e8, _⟩ := DataW.trod_int (k := .i64) (by kernel_rfl : Try.prog.underlying 3 = some (.int .i64)) (show DataW.trod enc Try.prog W 0 (fun _ => true) true n' 3 [c8] = some y7 from g7)
        have g8 : DataW.trod enc Try.prog W 0 (fun _ => true) true n' 3 (List.take (Try.prog.cellsOf 3) (List.drop 8 [c1, c2, c3, c4, c5, c6, c7, c8, c9])) = some y8 := hg 8 _ rfl
        rw [act_c2] at g8
        obtain ⟨q9, e9, _⟩ := DataW.trod_int (k := .i64) (by kernel_rfl : Try.prog.underlying 3 = some (.int .i64)) (show DataW.trod enc Try.prog W 0 (fun _ => true) true n' 3 [c9] = some y8 from g8)
        obtain ⟨ia, il, ic, e10⟩ : ∃ ia il ic, c10 = .slice ia il ic := by
          rcases DataW.trod_slice (e := 33) (by kernel_rfl) k2' with ⟨h0, _⟩ | ⟨a, len, cap, _, _, _, _, h0, _⟩
          · exact ⟨none, 0, 0, by simpa using h0⟩
          · exact ⟨some a, len, cap, by simpa using h0⟩
        obtain rfl : c0 = .int .i64 q0 := by simpa using e0
        obtain rfl : c1 = .int .i64 q1 := by simpa using e1
        obtain rfl : c2 = .int .u32 q2 := by simpa using e2
        obtain rfl : c3 = .bool q3 := by simpa using e3
        obtain rfl : c4 = .int .i64 q4 := by simpa using e4
        obtain rfl : c5 = .int .i64 q5 := by simpa using e5
        obtain rfl : c6 = .bool q6 := by simpa using e6
        obtain rfl : c7 = .int .i64 q7 := by simpa using e7
        obtain rfl : c8 = .int .i64 q8 := by simpa using e8
        obtain rfl : c9 = .int .i64 q9 := by simpa using e9
        subst e10
        exact ⟨⟨q0, ⟨q1, q2, q3, q4, q5, q6, q7, q8, q9⟩, ia, il, ic⟩, rfl⟩
theorem isActs_of {W : World} {a : Option Addr} {len cap : Nat} {d : DataW H} {ps : List MemPlace}
    (h : DataW.Trod enc Try.prog W 0 (fun _ => true) true 22 (.slice a len cap) d ps) (hlt : ∀ x ∈ ps, x.block < W.heap.size) :
    ∃ xs : List Ac, IsAct W (.slice a len cap) xs ∧ xs.length = len := by
  obtain ⟨fuel, hf0⟩ := h
  rcases Deep.open_slice (e := 53) (by kernel_rfl) hf0 with ⟨hcs, hx⟩ | ⟨ad, len', cap', m, n, D, Pl, hcs, hb, hl, hm, hmm, hx, hel⟩
  · simp [Value.cells] at hcs
    obtain ⟨rfl, rfl, rfl⟩ := hcs
    exact ⟨[], ⟨none, 0, rfl, fun h => by simp at h⟩, rfl⟩
  · simp [Value.cells] at hcs
    obtain ⟨rfl, rfl, rfl⟩ := hcs
    simp only [if_true] at hmm
    have hmm' := hmm.symm
    subst hmm'
    simp only [Prod.mk.injEq] at hx
    obtain ⟨rfl, rfl⟩ := hx
    obtain ⟨b, off, spot⟩ := ad
    have each : ∀ i, i < len → ∃ q : Ac, ∀ j, j < 11 → W.cell? (((⟨b, off, spot⟩ : Addr).add (i * 11)).add j) = (acL q)[j]? := by
      intro i hil
      obtain ⟨cs', h1, h2⟩ := hel i (by omega)
      rw [act_c0] at h1
      obtain ⟨_, hlen, hcell⟩ := World.cells?_some h1
      obtain ⟨x, rfl⟩ := act_cells h2
      exact ⟨x, hcell⟩
    obtain ⟨q, hq⟩ := Deep.choose_lt each
    by_cases hl0 : len = 0
    · subst hl0
      exact ⟨[], ⟨_, _, rfl, fun h => by simp at h⟩, rfl⟩
    · have hspot : spot = none := by
        have h0 := hq 0 (by omega) 0 (by omega)
        have := World.cell?_spot (h0.trans (show (acL (q 0))[0]? = some (i6 (q 0).kd) from rfl))
        simpa [Addr.add] using this
      subst hspot
      have hbW : b < W.heap.size := hlt (.cell b off) (by
        rw [act_c0]
        exact List.mem_append_left _ (MemPlace.mem_row.2 ⟨0, by omega, by simp⟩))
      refine ⟨(List.range len).map q, ⟨_, cap, by simp, fun _ => ⟨b, off, rfl, hbW, fun k x hk j u hj => ?_⟩⟩, by simp⟩
      have hkl : k < len := by have := (List.getElem?_eq_some_iff.1 hk).1; simpa using this
      have hkr : q k = x := by simpa [List.getElem?_map, List.getElem?_range hkl] using hk
      have hj11 : j < 11 := by have := (List.getElem?_eq_some_iff.1 hj).1; rwa [acL_len] at this
      have := hq k hkl j hj11
      rw [hkr, hj] at this
      rw [Deep.add_add, show (⟨b, off, none⟩ : Addr).add (k * 11 + j) = ⟨b, off + (k * 11 + j), none⟩ by unfold Addr.add; split <;> simp_all] at this
      rw [Nat.add_assoc]
      exact this
end
end Go.Proofs.Ytmcndiljldbkcaa
