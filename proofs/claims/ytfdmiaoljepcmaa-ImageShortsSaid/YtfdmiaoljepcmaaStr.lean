/- Strings as lists of byte numbers: joined, cut, read, held against each other; nothing of any program. -/
import Derived.Test.YtfdmiaoljepcmaaLib
import Derived.Laws.BytesArg
namespace Go.Proofs.Ytfdmiaoljepcmaa
open Go Go.RowKit

/-- The numbers are bytes. -/
def IsBytes (xs : List Int) : Prop := ∀ x ∈ xs, 0 ≤ x ∧ x < 256
theorem IsBytes.nil : IsBytes [] := fun _ h => by cases h
theorem IsBytes.append {xs ys : List Int} (h : IsBytes xs) (k : IsBytes ys) : IsBytes (xs ++ ys) := fun x hx => (List.mem_append.1 hx).elim (h x) (k x)
theorem IsBytes.take {xs : List Int} (h : IsBytes xs) (n : Nat) : IsBytes (xs.take n) := fun x hx => h x (List.mem_of_mem_take hx)
theorem IsBytes.drop {xs : List Int} (h : IsBytes xs) (n : Nat) : IsBytes (xs.drop n) := fun x hx => h x (List.mem_of_mem_drop hx)
theorem IsBytes.reverse {xs : List Int} (h : IsBytes xs) : IsBytes xs.reverse := fun x hx => h x (List.mem_reverse.1 hx)

/-- The numbers of a string. -/
def numsOf (b : ByteArray) : List Int := b.data.toList.map fun c => (c.toNat : Int)
theorem numsOf_bytes (b : ByteArray) : IsBytes (numsOf b) := fun x hx => by
  obtain ⟨c, _, rfl⟩ := List.mem_map.1 hx
  have := c.toNat_lt
  omega
theorem str_numsOf (b : ByteArray) : strOfNums (numsOf b) = b := by
  apply ByteArray.ext
  apply Array.ext'
  rw [strOfNums_data]
  simp [numsOf, List.map_map, Function.comp_def]
theorem numsOf_str {xs : List Int} (h : IsBytes xs) : numsOf (strOfNums xs) = xs := by
  unfold numsOf
  rw [strOfNums_data, List.map_map]
  conv => rhs; rw [← List.map_id xs]
  apply List.map_congr_left
  intro x hx
  have := h x hx
  simp only [Function.comp, UInt8.toNat_ofNat', id]
  omega
theorem numsOf_length (b : ByteArray) : (numsOf b).length = b.size := by
  unfold numsOf
  rw [List.length_map, Array.length_toList]
  rfl
theorem str_inj {xs ys : List Int} (h : IsBytes xs) (k : IsBytes ys) (e : strOfNums xs = strOfNums ys) : xs = ys := by
  rw [← numsOf_str h, ← numsOf_str k, e]
theorem str_append (xs ys : List Int) : strOfNums xs ++ strOfNums ys = strOfNums (xs ++ ys) := by
  apply ByteArray.ext
  apply Array.ext'
  rw [ByteArray.data_append, Array.toList_append, strOfNums_data, strOfNums_data, strOfNums_data, List.map_append]
theorem str_nil : strOfNums [] = ByteArray.empty := rfl
theorem str_extract (xs : List Int) (i j : Nat) : (strOfNums xs).extract i j = strOfNums ((xs.drop i).take (j - i)) := by
  apply ByteArray.ext
  apply Array.ext'
  simp [strOfNums, ByteArray.data_extract, List.map_take, List.map_drop]
theorem str_get {xs : List Int} (h : IsBytes xs) (j : Nat) (hj : j < xs.length) (hj' : j < (strOfNums xs).size) : (((strOfNums xs)[j]'hj').toNat : Int) = xs[j] := by
  have hx := h xs[j] (List.getElem_mem hj)
  have : (strOfNums xs)[j]'hj' = UInt8.ofNat xs[j].toNat := by
    have e : (strOfNums xs).data.toList[j]? = some (UInt8.ofNat xs[j].toNat) := by
      rw [strOfNums_data, List.getElem?_map, List.getElem?_eq_getElem hj]; rfl
    rw [Array.getElem?_toList] at e
    rw [ByteArray.getElem_eq_getElem_data]
    exact (Array.getElem?_eq_some_iff.1 e).2
  rw [this, UInt8.toNat_ofNat']
  omega
theorem str_eq {xs ys : List Int} (h : IsBytes xs) (k : IsBytes ys) : (strOfNums xs = strOfNums ys) ↔ xs = ys := ⟨str_inj h k, fun e => by rw [e]⟩

/-! ### a block of bytes of the call's own -/
abbrev u8v (n : Int) : Value := .int .u8 n
/-- The block g of this world holds the bytes bs, and may be written. -/
structure OwnB (w : World) (g : Nat) (bs : List Int) : Prop where
  lt : g < w.heap.size
  at_ : ∀ j, j < bs.length → w.cell? ⟨g, j, none⟩ = some (u8v (bs.getD j 0)) ∧ w.frozen? ⟨g, j, none⟩ = false

theorem OwnB.set {w : World} {g : Nat} {bs : List Int} (h : OwnB w g bs) {j : Nat} (hj : j < bs.length) (x : Int) : OwnB (w.setCell ⟨g, j, none⟩ (u8v x)) g (bs.set j x) := by
  refine ⟨by simpa [World.setCell] using h.lt, fun i hi => ?_⟩
  rw [List.length_set] at hi
  obtain ⟨h1, h2⟩ := h.at_ i hi
  obtain ⟨h3, h4⟩ := h.at_ j hj
  refine ⟨?_, by rw [World.frozen?_setCell]; exact h2⟩
  by_cases e : j = i
  · subst e
    rw [World.cell?_setCell_same _ _ _ h3]
    simp [List.getD_eq_getElem?_getD, List.getElem?_set_self hj]
  · rw [World.cell?_setCell_other _ _ _ _ (by intro h; cases h; exact e rfl), h1]
    simp [List.getD_eq_getElem?_getD, List.getElem?_set_ne e]
theorem OwnB.below {w w' : World} {g : Nat} {bs : List Int} (h : OwnB w g bs) (hb : Below w.heap.size w w') : OwnB w' g bs :=
  ⟨Nat.lt_of_lt_of_le h.lt hb.size, fun j hj => ⟨(hb.cell (p := ⟨g, j, none⟩) h.lt).trans (h.at_ j hj).1, (hb.frozen (p := ⟨g, j, none⟩) h.lt).trans (h.at_ j hj).2⟩⟩
theorem OwnB.alloc {w : World} {g : Nat} {bs : List Int} (h : OwnB w g bs) (o : Obj) : OwnB (w.alloc o) g bs := h.below (q_alloc (Below.refl _ _) o)
theorem OwnB.drewN {w : World} {g : Nat} {bs : List Int} (h : OwnB w g bs) (n : Nat) : OwnB (w.drewN n) g bs := h.below (q_drewN n (Below.refl _ _))
theorem OwnB.drew {w : World} {g : Nat} {bs : List Int} (h : OwnB w g bs) : OwnB w.drew g bs := h.below (Below.refl _ _).drew

/-- Bytes laid from a place on. -/
def put (bs : List Int) (off : Nat) : List Int → List Int
  | [] => bs
  | x :: xs => put (bs.set off x) (off + 1) xs
theorem put_length (xs : List Int) : ∀ (bs : List Int) (off : Nat), (put bs off xs).length = bs.length := by
  induction xs with
  | nil => intro bs off; rfl
  | cons x xs ih => intro bs off; rw [put, ih, List.length_set]
theorem put_room (xs : List Int) : ∀ (as : List Int) (m : Nat) (off : Nat), off = as.length → xs.length ≤ m → put (as ++ List.replicate m 0) off xs = as ++ xs ++ List.replicate (m - xs.length) 0 := by
  induction xs with
  | nil => intro as m off ho hm; simp [put]
  | cons x xs ih =>
    intro as m off ho hm
    obtain ⟨m, rfl⟩ : ∃ k, m = k + 1 := ⟨m - 1, by simp at hm; omega⟩
    have h1 : (as ++ List.replicate (m + 1) (0 : Int)).set off x = (as ++ [x]) ++ List.replicate m 0 := by
      subst ho
      rw [List.replicate_succ, List.append_assoc]
      simp
    rw [put, h1, ih (as ++ [x]) m (off + 1) (by simp [ho]) (by simpa using hm)]
    simp

/-! ### a number's bytes -/
/-- A number's digit to the base 256 at the power p; below 0 as of two's complement. -/
def digit (v p : Int) : Int := v / p % 256
theorem digit_byte (v p : Int) : 0 ≤ digit v p ∧ digit v p < 256 := by unfold digit; omega
/-- A number's bytes, the lowest first; n of them (1, 2 or 4). -/
def lowFirst (n : Int) (v : Int) : List Int :=
  if n = 1 then [digit v 1] else if n = 2 then [digit v 1, digit v 256] else [digit v 1, digit v 256, digit v 65536, digit v 16777216]
/-- A number's bytes, in an order. -/
def enc (od n v : Int) : List Int := if od = 1 then (lowFirst n v).reverse else lowFirst n v
theorem enc_bytes (od n v : Int) : IsBytes (enc od n v) := by
  have h : IsBytes (lowFirst n v) := by
    intro x hx
    unfold lowFirst at hx
    have := digit_byte v
    split at hx
    · simp at hx; subst hx; exact this _
    · split at hx <;> simp at hx
      · rcases hx with rfl | rfl <;> exact this _
      · rcases hx with rfl | rfl | rfl | rfl <;> exact this _
  unfold enc
  split
  · exact h.reverse
  · exact h
theorem enc_length (od v : Int) {n : Int} (h : n = 1 ∨ n = 2 ∨ n = 4) : (enc od n v).length = n.toNat := by
  unfold enc lowFirst
  rcases h with rfl | rfl | rfl <;> split <;> simp
theorem enc_turned (n v : Int) : enc 0 n v = (enc 1 n v).reverse := by simp [enc]
/-- The bytes of all. -/
def encRow (od n : Int) (l : List Int) : List Int := l.flatMap (enc od n)
theorem encRow_bytes (od n : Int) (l : List Int) : IsBytes (encRow od n l) := fun x hx => by
  obtain ⟨v, _, hv⟩ := List.mem_flatMap.1 hx
  exact enc_bytes od n v x hv
theorem encRow_length (od : Int) (l : List Int) {n : Int} (h : n = 1 ∨ n = 2 ∨ n = 4) : (encRow od n l).length = l.length * n.toNat := by
  induction l with
  | nil => simp [encRow]
  | cons v l ih =>
    have : encRow od n (v :: l) = enc od n v ++ encRow od n l := by simp [encRow]
    rw [this, List.length_append, ih, enc_length od v h, List.length_cons, Nat.add_mul]
    omega
theorem encRow_step (od n : Int) (l : List Int) (i : Nat) (hi : i < l.length) : encRow od n (l.take (i + 1)) = encRow od n (l.take i) ++ enc od n (l.getD i 0) := by
  have h : l.take (i + 1) = l.take i ++ [l.getD i 0] := by
    rw [List.take_add_one, List.getD_eq_getElem?_getD, List.getElem?_eq_getElem hi]; rfl
  unfold encRow
  rw [h, List.flatMap_append, List.flatMap_cons, List.flatMap_nil, List.append_nil]
theorem encRow_one (od n v : Int) : encRow od n [v] = enc od n v := by simp [encRow]

/-- The numbers of bytes, the lowest first. -/
def valLow : List Int → Int
  | [] => 0
  | x :: xs => x + 256 * valLow xs
/-- The number that bytes are, of a size whose greatest number is hi and least one lo. -/
def dec (od lo hi : Int) (xs : List Int) : Int :=
  let u := valLow (if od = 1 then xs.reverse else xs)
  if hi < u then u - (hi - lo + 1) else u
end Go.Proofs.Ytfdmiaoljepcmaa
