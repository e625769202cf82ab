/- What a package-level table of plain data holds, cell for cell, out of the row's condition: of whatever program. -/
import Derived.Test.YtgcedookbblibaaLib
import Derived.LaidLaws
import Derived.ChangeArms
import Derived.OpenShut
import Derived.Lib.LaidTab
namespace Go.Proofs.Ytgcedookbblibaa
open Go Go.RowKit

mutual
/-- The cells of plain data: numbers, bools, texts, and what is built of them. -/
def flat {H : Type} : DataW H → Option (List Value)
  | .lit (.int k n) => some [.int k n]
  | .lit (.bool b) => some [.bool b]
  | .lit (.string s) => some [.string ⟨s.toArray⟩]
  | .agg ds => flats ds
  | _ => none
def flats {H : Type} : List (DataW H) → Option (List Value)
  | [] => some []
  | d :: ds => (flat d).bind fun a => (flats ds).map fun b => a ++ b
end

/-- Fields that stand one behind the other, from a place on. -/
def running (P : Program) : Nat → List Field → Bool
  | _, [] => true
  | o, f :: fs => f.offset == o && running P (o + P.cellsOf f.type) fs

/-- A type of plain data, without gaps. -/
def contig (P : Program) : Nat → TypeId → Bool
  | 0, _ => false
  | f + 1, t => match P.underlying t with
    | some .bool => P.cellsOf t == 1
    | some (.int _) => P.cellsOf t == 1
    | some .string => P.cellsOf t == 1
    | some (.array n e) => P.cellsOf t == n * P.cellsOf e && contig P f e
    | some (.struct fs) => running P 0 fs.toList && P.cellsOf t == (fs.toList.map fun x => P.cellsOf x.type).sum && fs.toList.all fun x => contig P f x.type
    | _ => false

theorem flats_slices {H : Type} (c : Nat) : ∀ (ds : List (DataW H)) (cs : List Value), (∀ i (h : i < ds.length), flat ds[i] = some ((cs.drop (i * c)).take c)) → flats ds = some (cs.take (ds.length * c))
  | [], cs, _ => by simp [flats]
  | d :: ds, cs, h => by
    have h0 := h 0 (by simp)
    have ht := flats_slices c ds (cs.drop c) (fun i hi => by
      have := h (i + 1) (by simpa using hi)
      simp only [List.getElem_cons_succ] at this
      rw [this, List.drop_drop]
      congr 3
      rw [Nat.add_mul]; omega)
    simp only [List.getElem_cons_zero, Nat.zero_mul, List.drop_zero] at h0
    simp only [flats, h0, ht, Option.bind_some, Option.map_some, List.length_cons]
    rw [← List.take_add]
    congr 2
    rw [Nat.add_mul]; omega

theorem flats_fields {H : Type} (P : Program) : ∀ (fs : List Field) (ds : List (DataW H)) (o : Nat) (cs : List Value), running P o fs = true → ds.length = fs.length →
    (∀ i (h : i < ds.length) (h' : i < fs.length), flat ds[i] = some ((cs.drop fs[i].offset).take (P.cellsOf fs[i].type))) → flats ds = some ((cs.drop o).take (fs.map fun x => P.cellsOf x.type).sum)
  | [], ds, o, cs, _, hl, _ => by
    obtain rfl := List.length_eq_zero_iff.1 (by simpa using hl)
    simp [flats]
  | f :: fs, [], o, cs, _, hl, _ => by simp at hl
  | f :: fs, d :: ds, o, cs, hr, hl, h => by
    simp only [running, Bool.and_eq_true, beq_iff_eq] at hr
    have h0 := h 0 (by simp) (by simp)
    have ht := flats_fields P fs ds (o + P.cellsOf f.type) cs hr.2 (by simpa using hl) (fun i hi hi' => by
      have := h (i + 1) (by simpa using hi) (by simpa using hi')
      simp only [List.getElem_cons_succ] at this
      exact this)
    simp only [List.getElem_cons_zero, hr.1] at h0
    simp only [flats, h0, ht, Option.bind_some, Option.map_some, List.map_cons, List.sum_cons]
    rw [List.take_add, List.drop_drop]

theorem flat_of_trod {H : Type} {enc : TypeId × Value → H} {P : Program} {w : World} {base : Nat} {sp : Nat → Bool} {held : Bool} : ∀ (fuel f : Nat) (t : TypeId) (cs : List Value) (x : DataW H × List MemPlace),
    contig P f t = true → DataW.trod enc P w base sp held fuel t cs = some x → flat x.1 = some cs
  | 0, f, t, cs, x, _, h => by simp [DataW.trod] at h
  | fuel + 1, 0, t, cs, x, hc, h => by simp [contig] at hc
  | fuel + 1, f + 1, t, cs, x, hc, h => by
    unfold contig at hc
    split at hc
    · rename_i hu
      obtain ⟨b, rfl, rfl⟩ := DataW.trod_bool hu h
      rfl
    · rename_i k hu
      obtain ⟨z, rfl, rfl, _⟩ := DataW.trod_int hu h
      rfl
    · rename_i hu
      obtain ⟨s, rfl, rfl, _⟩ := DataW.trod_string hu h
      simp [flat]
    · rename_i n e hu
      simp only [Bool.and_eq_true, beq_iff_eq] at hc
      obtain ⟨xs, m, hm, rfl, hl, hxl, hx⟩ := DataW.trod_array hu h
      obtain rfl : m = fuel := by omega
      have := flats_slices (P.cellsOf e) (xs.map (·.1)) cs (fun i hi => by
        have hi' : i < xs.length := by simpa using hi
        have h1 := hx i (by omega)
        rw [List.getElem?_eq_getElem hi'] at h1
        have h2 := flat_of_trod m f e _ _ hc.2 h1
        simpa using h2)
      simp only [flat, this, List.length_map, hxl]
      rw [List.take_of_length_le (by omega)]
    · rename_i fs hu
      simp only [Bool.and_eq_true, beq_iff_eq, List.all_eq_true] at hc
      obtain ⟨xs, m, hm, rfl, hl, hxl, hx⟩ := DataW.trod_struct hu h
      obtain rfl : m = fuel := by omega
      have := flats_fields P fs.toList (xs.map (·.1)) 0 cs hc.1.1 (by simpa using hxl) (fun i hi hi' => by
        have hi2 : i < xs.length := by simpa using hi
        have h1 := hx i fs.toList[i] (by simp)
        rw [List.getElem?_eq_getElem hi2] at h1
        have h2 := flat_of_trod m f _ _ _ (hc.2 fs.toList[i] (List.getElem_mem _)) h1
        simpa using h2)
      simp only [flat, this, List.drop_zero]
      rw [List.take_of_length_le (by omega)]
    · cases hc

/-- From the row's condition to the walk's fact: the variable that stands first on the list. -/
theorem rowAt_of_laid {P : Program} {W : World} {name : String} {d : DataW Unit} {rest : List (String × DataW Unit)} {g : Nat} {t : TypeId} {xs : List Value} (f : Nat)
    (hg : P.globalNamed name = some g) (hty : (P.globals[g]?).map (·.type) = some t) (hc : contig P f t = true) (hx : flat d = some xs) (hne : xs ≠ [])
    (h : laidMet P ((name, d) :: rest) W) : RowAt g xs W := by
  obtain ⟨ps, ⟨g', t', cs, fuel, p, q, hg', ht', hvar, hd, _, _⟩, _⟩ := h
  obtain rfl := Option.some.inj (hg.symm.trans hg')
  obtain rfl := Option.some.inj (hty.symm.trans ht')
  have h1 := flat_of_trod fuel f t _ _ hc hd
  obtain rfl := Option.some.inj (hx.symm.trans h1)
  refine RowAt.mk' hne fun j v hj => ?_
  rw [World.var?_cell hg hvar j]
  simpa using hj
/-- The same, the type's number not written out. -/
theorem rowAt_of_laid' {P : Program} {W : World} {name : String} {d : DataW Unit} {rest : List (String × DataW Unit)} {g : Nat} {xs : List Value} (f : Nat)
    (hg : P.globalNamed name = some g) (hs : ((P.globals[g]?).map (·.type)).isSome = true)
    (hc : ((P.globals[g]?).map (·.type)).bind (fun t => if contig P f t then some t else none) = (P.globals[g]?).map (·.type)) (hx : flat d = some xs) (hne : xs ≠ [])
    (h : laidMet P ((name, d) :: rest) W) : RowAt g xs W := by
  obtain ⟨t, ht⟩ := Option.isSome_iff_exists.1 hs
  refine rowAt_of_laid f hg ht ?_ hx hne h
  rw [ht] at hc
  by_cases hq : contig P f t = true
  · exact hq
  · simp [hq] at hc
end Go.Proofs.Ytgcedookbblibaa
