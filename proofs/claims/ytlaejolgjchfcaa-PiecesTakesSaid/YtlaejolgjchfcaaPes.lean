/- Layer 42: an argument that is a slice of pieces (a bool, a number, a slice of numbers, a bool): what a walk wants of it. -/
import Derived.Test.YtlaejolgjchfcaaPc5
import Derived.Test.YtlaejolgjchfcaaInts3
import Derived.Deep.Slices
import Derived.ChangeSlices
import Derived.ProofKit
namespace Go.Proofs.Ytlaejolgjchfcaa
open Go Go.RowKit Go.WideShapes Go.ChangeShapes
set_option linter.unusedSimpArgs false
set_option linter.unusedVariables false
structure Pe where
  a : Bool
  t : Int
  sa : Option Addr
  sc : Nat
  l : Bool
  ds : List Int
instance : Inhabited Pe := ⟨⟨false, 0, none, 0, false, []⟩⟩
def peL (x : Pe) : List Value := [.bool x.a, i6 x.t, .slice x.sa x.ds.length x.sc, .bool x.l]
/-- A piece's numbers. -/
def PeOk (w : World) (x : Pe) : Prop := IsI w (.slice x.sa x.ds.length x.sc) x.ds ∧ (x.sa = none → x.sc = 0)
/-- The value is a slice of these pieces, in old memory. -/
def IsPe (w : World) (v : Value) (xs : List Pe) : Prop :=
  ∃ A cap, v = .slice A xs.length cap ∧ (0 < xs.length → ∃ b off, A = some ⟨b, off, none⟩ ∧ b < w.heap.size ∧ (∀ (k : Nat) (x : Pe), xs[k]? = some x → ∀ (j : Nat) (u : Value), (peL x)[j]? = some u → w.cell? ⟨b, off + k * 4 + j, none⟩ = some u) ∧ ∀ x ∈ xs, PeOk w x)
theorem IsPe.below {w w' : World} {v : Value} {xs : List Pe} (h : IsPe w v xs) (hb : Below w.heap.size w w') : IsPe w' v xs := by
  obtain ⟨A, cap, rfl, hf⟩ := h
  refine ⟨A, cap, rfl, fun h0 => ?_⟩
  obtain ⟨b, off, rfl, h1, h2, h3⟩ := hf h0
  exact ⟨b, off, rfl, Nat.lt_of_lt_of_le h1 hb.size, fun k x hk j u hj => cell_below hb (h2 k x hk j u hj), fun x hx => ⟨(h3 x hx).1.below hb, (h3 x hx).2⟩⟩
theorem pe_c0 : Try.prog.cellsOf 33 = 4 := by kernel_rfl
theorem pe_c2 : Try.prog.cellsOf 3 = 1 := by kernel_rfl
theorem pe_c3 : Try.prog.cellsOf 22 = 1 := by kernel_rfl
theorem pe_c4 : Try.prog.cellsOf 2 = 1 := by kernel_rfl
theorem pe_c5 : Try.prog.cellsOf 4 = 1 := by kernel_rfl
section
variable {H : Type} {enc : TypeId × Value → H}
theorem pe_cells {W : World} {fuel : Nat} {cs : List Value} {y : DataW H × List MemPlace} (h : DataW.trod enc Try.prog W 0 (fun _ => true) true fuel 33 cs = some y) (hlt : ∀ x ∈ y.2, x.block < W.heap.size) : ∃ x : Pe, cs = peL x ∧ PeOk W x := by
  obtain ⟨xs, n, _, hy, hlen, hxl, hf⟩ := DataW.trod_struct Try.underlying33 h
  rw [pe_c0] at hlen
  match cs, hlen with
  | [c0, c1, c2, c3], _ =>
    match xs, hxl with
    | [z0, z1, z2, z3], _ =>
      have k0 : DataW.trod enc Try.prog W 0 (fun _ => true) true n 4 (List.take (Try.prog.cellsOf 4) (List.drop 0 [c0, c1, c2, c3])) = some z0 := hf 0 _ rfl
      have k1 : DataW.trod enc Try.prog W 0 (fun _ => true) true n 3 (List.take (Try.prog.cellsOf 3) (List.drop 1 [c0, c1, c2, c3])) = some z1 := hf 1 _ rfl
      have k2 : DataW.trod enc Try.prog W 0 (fun _ => true) true n 22 (List.take (Try.prog.cellsOf 22) (List.drop 2 [c0, c1, c2, c3])) = some z2 := hf 2 _ rfl
      have k3 : DataW.trod enc Try.prog W 0 (fun _ => true) true n 4 (List.take (Try.prog.cellsOf 4) (List.drop 3 [c0, c1, c2, c3])) = some z3 := hf 3 _ rfl
      rw [pe_c5] at k0 k3
      rw [pe_c2] at k1
      rw [pe_c3] at k2
      obtain ⟨q0, e0, _⟩ := DataW.trod_bool Try.underlying4 (show DataW.trod enc Try.prog W 0 (fun _ => true) true n 4 [c0] = some z0 from k0)
      obtain ⟨q1, e1, _⟩ := DataW.trod_int (k := .i64) (by kernel_rfl : Try.prog.underlying 3 = some (.int .i64)) (show DataW.trod enc Try.prog W 0 (fun _ => true) true n 3 [c1] = some z1 from k1)
      obtain ⟨q3, e3, _⟩ := DataW.trod_bool Try.underlying4 (show DataW.trod enc Try.prog W 0 (fun _ => true) true n 4 [c3] = some z3 from k3)
      obtain ⟨sa, sc, us, e2, hi, hno⟩ := isInts_cell (e := 2) (k := .i64) (by kernel_rfl) (by kernel_rfl) pe_c4 (show DataW.trod enc Try.prog W 0 (fun _ => true) true n 22 [c2] = some z2 from k2) (fun x hx => hlt x (by rw [hy]; simp [hx]))
      obtain rfl : c0 = .bool q0 := by simpa using e0
      obtain rfl : c1 = .int .i64 q1 := by simpa using e1
      obtain rfl : c3 = .bool q3 := by simpa using e3
      subst e2
      exact ⟨⟨q0, q1, sa, sc, q3, us⟩, rfl, isI_of_ints hi, hno⟩
theorem isPes_of {W : World} {a : Option Addr} {len cap : Nat} {d : DataW H} {ps : List MemPlace}
    (h : DataW.Trod enc Try.prog W 0 (fun _ => true) true 41 (.slice a len cap) d ps) (hlt : ∀ x ∈ ps, x.block < W.heap.size) :
    ∃ xs : List Pe, IsPe W (.slice a len cap) xs ∧ xs.length = len := by
  obtain ⟨fuel, hf0⟩ := h
  rcases Deep.open_slice (e := 33) (by kernel_rfl) hf0 with ⟨hcs, hx⟩ | ⟨ad, len', cap', m, n, D, Pl, hcs, hb, hl, hm, hmm, hx, hel⟩
  · simp [Value.cells] at hcs
    obtain ⟨rfl, rfl, rfl⟩ := hcs
    exact ⟨[], ⟨none, 0, rfl, fun h => by simp at h⟩, rfl⟩
  · simp [Value.cells] at hcs
    obtain ⟨rfl, rfl, rfl⟩ := hcs
    simp only [if_true] at hmm
    have hmm' := hmm.symm
    subst hmm'
    simp only [Prod.mk.injEq] at hx
    obtain ⟨rfl, rfl⟩ := hx
    obtain ⟨b, off, spot⟩ := ad
    have each : ∀ i, i < len → ∃ q : Pe, PeOk W q ∧ ∀ j, j < 4 → W.cell? (((⟨b, off, spot⟩ : Addr).add (i * 4)).add j) = (peL q)[j]? := by
      intro i hil
      obtain ⟨cs', h1, h2⟩ := hel i (by omega)
      rw [pe_c0] at h1
      obtain ⟨_, hlen, hcell⟩ := World.cells?_some h1
      obtain ⟨x, rfl, hok⟩ := pe_cells h2 (fun x hx => hlt x (List.mem_append_right _ (List.mem_flatMap.2 ⟨i, List.mem_range.2 (by omega), hx⟩)))
      exact ⟨x, hok, hcell⟩
    obtain ⟨q, hq⟩ := Deep.choose_lt each
    by_cases hl0 : len = 0
    · subst hl0
      exact ⟨[], ⟨_, _, rfl, fun h => by simp at h⟩, rfl⟩
    · have hspot : spot = none := by
        have h0 := (hq 0 (by omega)).2 0 (by omega)
        have := World.cell?_spot (h0.trans (show (peL (q 0))[0]? = some (.bool (q 0).a) from rfl))
        simpa [Addr.add] using this
      subst hspot
      have hbW : b < W.heap.size := hlt (.cell b off) (by
        rw [pe_c0]
        exact List.mem_append_left _ (MemPlace.mem_row.2 ⟨0, by omega, by simp⟩))
      refine ⟨(List.range len).map q, ⟨_, cap, by simp, fun _ => ⟨b, off, rfl, hbW, fun k x hk j u hj => ?_, fun x hx => ?_⟩⟩, by simp⟩
      · have hkl : k < len := by have := (List.getElem?_eq_some_iff.1 hk).1; simpa using this
        have hkr : q k = x := by simpa [List.getElem?_map, List.getElem?_range hkl] using hk
        have hj4 : j < 4 := (List.getElem?_eq_some_iff.1 hj).1
        have := (hq k hkl).2 j hj4
        rw [hkr, hj] at this
        rw [Deep.add_add, show (⟨b, off, none⟩ : Addr).add (k * 4 + j) = ⟨b, off + (k * 4 + j), none⟩ by unfold Addr.add; split <;> simp_all] at this
        rw [Nat.add_assoc]
        exact this
      · obtain ⟨i, hi, rfl⟩ := List.mem_map.1 hx
        exact (hq i (List.mem_range.1 hi)).1
end
end Go.Proofs.Ytlaejolgjchfcaa
