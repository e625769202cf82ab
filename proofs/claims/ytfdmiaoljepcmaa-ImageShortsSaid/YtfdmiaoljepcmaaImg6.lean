/- Layer 25: the short form, and what it says. -/
import Derived.Test.YtfdmiaoljepcmaaImg5
namespace Go.Proofs.Ytfdmiaoljepcmaa
open Go Go.RowKit

theorem run_take {l : List Int} {n : Nat} (h : IsRun l n) : l.take n = List.replicate n (l.getD 0 0) := by
  have hn := h.len
  apply List.ext_getElem
  · rw [List.length_take, List.length_replicate]; omega
  · intro j h1 h2
    rw [List.length_replicate] at h2
    rw [List.getElem_take, List.getElem_replicate]
    have := h.alike j h2
    rw [List.getD_eq_getElem?_getD, List.getElem?_eq_getElem (by omega)] at this
    exact this
theorem run_split {l : List Int} {n : Nat} (h : IsRun l n) : List.replicate n (l.getD 0 0) ++ l.drop n = l := by
  rw [← run_take h, List.take_append_drop]

/-- What is said by a beginning, without what is behind it. -/
theorem says_run {n : Nat} {x : Int} {rest acc : List Int} {R : Value} (h3 : 3 ≤ n) (hl : acc.length + n ≤ 65536) (h : LongIs acc (((n : Int) + 125) :: x :: rest) R) : LongIs (acc ++ List.replicate n x) rest R := by
  generalize hS : ((n : Int) + 125) :: x :: rest = S at h
  have g0 : S.getD 0 0 = (n : Int) + 125 := by rw [← hS]; rfl
  have g1 : S.getD 1 0 = x := by rw [← hS]; rfl
  have gl : S.length = rest.length + 2 := by rw [← hS]; rfl
  have part : ∀ {b : List Int} {m : Nat}, PartIs S b m → b = List.replicate n x ∧ m = 2 := by
    intro b m hp
    rcases hp with ⟨_, _, hb, hm⟩ | ⟨h1, _⟩
    · rw [g0, g1] at hb
      rw [show ((n : Int) + 125 - 125).toNat = n by omega] at hb
      exact ⟨hb, hm⟩
    · rw [g0] at h1; omega
  cases h with
  | nil => simp at gl
  | short hn =>
    rcases hn with ⟨_, ⟨_, h2⟩ | ⟨h1, _⟩⟩
    · omega
    · rw [g0] at h1; omega
  | long _ hp hbig =>
    obtain ⟨rfl, _⟩ := part hp
    rw [List.length_replicate] at hbig
    omega
  | step _ hp _ hs =>
    obtain ⟨rfl, rfl⟩ := part hp
    rw [← hS] at hs
    exact hs
theorem says_plain {ys rest acc : List Int} {R : Value} (h1 : 1 ≤ ys.length) (h2 : ys.length ≤ 128) (hl : acc.length + ys.length ≤ 65536) (h : LongIs acc (((ys.length : Int) - 1) :: (ys ++ rest)) R) : LongIs (acc ++ ys) rest R := by
  generalize hS : ((ys.length : Int) - 1) :: (ys ++ rest) = S at h
  have g0 : S.getD 0 0 = (ys.length : Int) - 1 := by rw [← hS]; rfl
  have gl : S.length = ys.length + rest.length + 1 := by rw [← hS]; simp
  have part : ∀ {b : List Int} {m : Nat}, PartIs S b m → b = ys ∧ m = ys.length + 1 := by
    intro b m hp
    rcases hp with ⟨h1, _⟩ | ⟨_, _, hb, hm⟩
    · rw [g0] at h1; omega
    · rw [g0] at hb hm
      rw [show ((ys.length : Int) - 1).toNat = ys.length - 1 by omega] at hb hm
      refine ⟨?_, by omega⟩
      rw [hb, ← hS, List.drop_one, List.tail_cons, show ys.length - 1 + 1 = ys.length by omega, List.take_append_of_le_length (Nat.le_refl _), List.take_length]
  cases h with
  | nil => simp at gl
  | short hn =>
    rcases hn with ⟨_, ⟨q, _⟩ | ⟨_, q⟩⟩
    · rw [g0] at q; omega
    · rw [g0] at q; omega
  | long _ hp hbig =>
    obtain ⟨rfl, _⟩ := part hp
    omega
  | step _ hp _ hs =>
    obtain ⟨rfl, rfl⟩ := part hp
    rw [← hS, List.drop_succ_cons, List.drop_left] at hs
    exact hs

theorem says {l s : List Int} (h : ShortOf l s) : ∀ (acc t : List Int) (R : Value), acc.length + l.length ≤ 65536 → LongIs acc (s ++ t) R → LongIs (acc ++ l) t R := by
  induction h with
  | nil => intro acc t R _ h; simpa using h
  | @run l s n h0 hr h3 hs ih =>
    intro acc t R hl h
    have hn := hr.len
    have h1 := says_run (rest := s ++ t) h3 (by omega) h
    have h2 := ih _ t R (by rw [List.length_append, List.length_replicate, List.length_drop]; omega) h1
    rw [List.append_assoc, run_split hr] at h2
    exact h2
  | @plain l s m n h0 hr h3 hp h1 hs ih =>
    intro acc t R hl h
    have hn := hp.len
    have hn2 := hp.most
    have htl : (l.take n).length = n := by rw [List.length_take]; omega
    have h1 := says_plain (ys := l.take n) (rest := s ++ t) (acc := acc) (by omega) (by omega) (by omega) (by rw [htl]; simpa using h)
    have h2 := ih _ t R (by rw [List.length_append, htl, List.length_drop]; omega) h1
    rw [List.append_assoc, List.take_append_drop] at h2
    exact h2
theorem long_end {acc : List Int} {R : Value} (h : LongIs acc [] R) : R = strOk acc := by
  generalize hS : ([] : List Int) = S at h
  cases h with
  | nil => rfl
  | short hn => subst hS; simp [NoPart] at hn
  | long h0 => subst hS; simp at h0
  | step h0 => subst hS; simp at h0
theorem back {l s : List Int} {R : Value} (h : ShortOf l s) (hl : l.length ≤ 65536) (hR : LongIs [] s R) : R = strOk l := by
  have := says h [] [] R (by simpa using hl) (by simpa using hR)
  exact long_end (by simpa using this)
theorem join {a b s t : List Int} {R : Value} (h : ShortOf a s) (k : ShortOf b t) (hl : a.length + b.length ≤ 65536) (hR : LongIs [] (s ++ t) R) : R = strOk (a ++ b) := by
  have h1 := says h [] t R (by simp; omega) hR
  rw [List.nil_append] at h1
  have h2 := says k a [] R hl (by simpa using h1)
  exact long_end h2
theorem over {l s : List Int} {c p : Int} {R : Value} (h : ShortOf l s) (hl : l.length = 65536) (hc : 128 ≤ c) (hR : LongIs [] (s ++ [c, p]) R) : R = strErr 4 := by
  have h1 := says h [] [c, p] R (by simp; omega) hR
  rw [List.nil_append] at h1
  generalize hS : [c, p] = S at h1
  have g0 : S.getD 0 0 = c := by rw [← hS]; rfl
  have gl : S.length = 2 := by rw [← hS]; rfl
  cases h1 with
  | nil => simp at gl
  | short hn =>
    rcases hn with ⟨_, ⟨_, h2⟩ | ⟨h1, _⟩⟩
    · omega
    · rw [g0] at h1; omega
  | long => rfl
  | step _ hp hs =>
    exfalso
    rcases hp with ⟨_, _, rfl, _⟩ | ⟨h1, _⟩
    · rw [g0, List.length_replicate] at hs; omega
    · rw [g0] at h1; omega

/-- The short form isn't much longer. -/
theorem short_len {l s : List Int} (h : ShortOf l s) : s.length ≤ l.length + (l.length + 127) / 128 ∧ (∀ m, IsRun l m → 3 ≤ m → s.length + 1 ≤ l.length + (l.length - 3 + 127) / 128) := by
  induction h with
  | nil => exact ⟨by simp, fun m hm h3 => by have := hm.len; simp at this; omega⟩
  | @run l s n h0 hr h3 hs ih =>
    have hn := hr.len
    have hd : (l.drop n).length = l.length - n := List.length_drop
    have hlen : ([(n : Int) + 125, l.getD 0 0] ++ s).length = s.length + 2 := by simp
    rw [hd] at ih
    rw [hlen]
    refine ⟨by omega, fun m hm _ => by omega⟩
  | @plain l s m n h0 hr h3 hp h1 hs ih =>
    have hn := hp.len
    have hn2 := hp.most
    have hd : (l.drop n).length = l.length - n := List.length_drop
    have hlen : ([(n : Int) - 1] ++ l.take n ++ s).length = s.length + n + 1 := by simp; omega
    rw [hd] at ih
    rw [hlen]
    refine ⟨?_, fun m' hm' h3' => by have := hr.unique hm'; omega⟩
    rcases hp.ends with e | e | ⟨r, hr', hr3⟩
    · have : s.length ≤ 0 := by have := ih.1; omega
      omega
    · have := ih.1
      omega
    · have := ih.2 r hr' hr3
      have hlr := hr'.len
      rw [hd] at hlr
      omega
theorem run_replicate (n : Nat) (p : Int) (h : 1 ≤ n) : IsRun (List.replicate n p) (min n 130) := by
  have hg : ∀ j, j < n → (List.replicate n p).getD j 0 = p := fun j hj => by
    rw [List.getD_eq_getElem?_getD, List.getElem?_replicate, if_pos hj]; rfl
  refine ⟨by omega, by omega, by rw [List.length_replicate]; omega, fun j hj => by rw [hg j (by omega), hg 0 (by omega)], ?_⟩
  rw [List.length_replicate]
  omega
/-- Of one byte, again and again, it is short. -/
theorem short_same {l s : List Int} (h : ShortOf l s) : ∀ (n : Nat) (p : Int), l = List.replicate n p → s.length ≤ 2 * (n / 130) + 3 := by
  induction h with
  | nil => intro n p _; simp
  | @run l s k h0 hr h3 hs ih =>
    intro n p e
    subst e
    have hn : 1 ≤ n := by rw [List.length_replicate] at h0; omega
    have hk := hr.unique (run_replicate n p hn)
    have := ih (n - k) p (by rw [List.drop_replicate])
    have hlen : ([(k : Int) + 125, (List.replicate n p).getD 0 0] ++ s).length = s.length + 2 := by simp
    rw [hlen]
    by_cases hb : n ≤ 130
    · have hk2 : k = n := by omega
      subst hk2
      have hs0 : s = [] := by
        have hd : (List.replicate k p).drop k = [] := by rw [List.drop_replicate, Nat.sub_self]; rfl
        rw [hd] at hs
        generalize hE : ([] : List Int) = E at hs
        cases hs with
        | nil => rfl
        | run q => subst hE; simp at q
        | plain q => subst hE; simp at q
      subst hs0
      simp
    · have hk2 : k = 130 := by omega
      subst hk2
      omega
  | @plain l s m k h0 hr h3 hp h1 hs ih =>
    intro n p e
    subst e
    have hn : 1 ≤ n := by rw [List.length_replicate] at h0; omega
    have hm := hr.unique (run_replicate n p hn)
    have hlen : ([(k : Int) - 1] ++ (List.replicate n p).take k ++ s).length = s.length + min k n + 1 := by simp; omega
    have hkl := hp.len
    rw [List.length_replicate] at hkl
    have hlen2 := (short_len hs).1
    rw [List.length_drop, List.length_replicate] at hlen2
    rw [hlen]
    have hkn : k = n := by
      rcases hp.ends with e | e | ⟨r, hr', h3'⟩
      · rw [List.length_replicate] at e; exact e
      · omega
      · have := hr'.len
        rw [List.length_drop, List.length_replicate] at this
        omega
    subst hkn
    have := hm ▸ h3
    omega
end Go.Proofs.Ytfdmiaoljepcmaa
