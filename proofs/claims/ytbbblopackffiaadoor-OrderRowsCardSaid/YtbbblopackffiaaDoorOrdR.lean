/- Layer 1: the document's answers: sizes, bounds, a number's bytes. -/
import Derived.Test.YtbbblopackffiaaDoorOrd9
namespace Go.Proofs.YtbbblopackffiaaDoor
open Go Go.RowKit
set_option linter.unusedSimpArgs false
set_option linter.unusedVariables false

theorem rsize_ok {s n lo hi : Int} (h : IsSpan s n lo hi) (w : World) :
    Calls Tryd.prog 41 #[i6 s] w fun e w' => e = .returned (i6 n) ∧ w = w' := by
  rcases h with ⟨rfl, rfl, rfl, rfl⟩ | ⟨rfl, rfl, rfl, rfl⟩ | ⟨rfl, rfl, rfl, rfl⟩ | ⟨rfl, rfl, rfl, rfl⟩ | ⟨rfl, rfl, rfl, rfl⟩ | ⟨rfl, rfl, rfl, rfl⟩
  all_goals
    go_enter Tryd.func41, Tryd.ntmps41
    go_wp2_with fail
    go_returns
    exact ⟨rfl, rfl⟩
theorem rleast_ok {s n lo hi : Int} (h : IsSpan s n lo hi) (w : World) :
    Calls Tryd.prog 42 #[i6 s] w fun e w' => e = .returned (i6 lo) ∧ w = w' := by
  rcases h with ⟨rfl, rfl, rfl, rfl⟩ | ⟨rfl, rfl, rfl, rfl⟩ | ⟨rfl, rfl, rfl, rfl⟩ | ⟨rfl, rfl, rfl, rfl⟩ | ⟨rfl, rfl, rfl, rfl⟩ | ⟨rfl, rfl, rfl, rfl⟩
  all_goals
    go_enter Tryd.func42, Tryd.ntmps42
    go_wp2_with fail
    go_returns
    exact ⟨rfl, rfl⟩
theorem rmost_ok {s n lo hi : Int} (h : IsSpan s n lo hi) (w : World) :
    Calls Tryd.prog 43 #[i6 s] w fun e w' => e = .returned (i6 hi) ∧ w = w' := by
  rcases h with ⟨rfl, rfl, rfl, rfl⟩ | ⟨rfl, rfl, rfl, rfl⟩ | ⟨rfl, rfl, rfl, rfl⟩ | ⟨rfl, rfl, rfl, rfl⟩ | ⟨rfl, rfl, rfl, rfl⟩ | ⟨rfl, rfl, rfl, rfl⟩
  all_goals
    go_enter Tryd.func43, Tryd.ntmps43
    go_wp2_with fail
    go_returns
    exact ⟨rfl, rfl⟩
theorem rsize_bad {s : Int} (h : BadSize s) (w : World) :
    Calls Tryd.prog 41 #[i6 s] w fun e w' => e = .returned (i6 0) ∧ w = w' := by
  unfold BadSize at h
  have h1 : ¬ s = 1 := by omega
  have h2 : ¬ s = 2 := by omega
  have h3 : ¬ s = 4 := by omega
  have h4 : ¬ s = -1 := by omega
  have h5 : ¬ s = -2 := by omega
  have h6 : ¬ s = -4 := by omega
  clear h
  go_enter Tryd.func41, Tryd.ntmps41
  go_wp2_with fail
  go_returns
  exact ⟨rfl, rfl⟩
/-- 256 as often as bytes. -/
def wholeOf (n : Int) : Int := if n = 1 then 256 else if n = 2 then 65536 else 4294967296
theorem whole_ok {n : Int} (h : n = 1 ∨ n = 2 ∨ n = 4) (w : World) :
    Calls Tryd.prog 44 #[i6 n] w fun e w' => e = .returned (i6 (wholeOf n)) ∧ w = w' := by
  rcases h with rfl | rfl | rfl
  · go_enter Tryd.func44, Tryd.ntmps44
    go_wp2_with fail
    go_rounds 2
    go_returns
    exact ⟨rfl, rfl⟩
  · go_enter Tryd.func44, Tryd.ntmps44
    go_wp2_with fail
    go_rounds 3
    go_returns
    exact ⟨rfl, rfl⟩
  · go_enter Tryd.func44, Tryd.ntmps44
    go_wp2_with fail
    go_rounds 5
    go_returns
    exact ⟨rfl, rfl⟩

/-- A number that is divided by 256 as often; its digits. -/
def quo (v : Int) : Nat → Int
  | 0 => v
  | k + 1 => quo v k / 256
def digs (v : Int) : Nat → List Int
  | 0 => []
  | k + 1 => digs v k ++ [quo v k % 256]
theorem quo_bounds {v : Int} (h : 0 ≤ v) (h' : v < 4294967296) : ∀ k, 0 ≤ quo v k ∧ quo v k < 4294967296
  | 0 => ⟨h, h'⟩
  | k + 1 => by have := quo_bounds h h' k; show 0 ≤ quo v k / 256 ∧ quo v k / 256 < _; omega
theorem digs_length (v : Int) : ∀ k, (digs v k).length = k
  | 0 => rfl
  | k + 1 => by show (digs v k ++ _).length = _; rw [List.length_append, digs_length v k]; rfl
theorem digs_low {s n lo hi v : Int} (h : IsSpan s n lo hi) (h1 : lo ≤ v) (h2 : v ≤ hi) : digs (if v < 0 then v + wholeOf n else v) n.toNat = lowFirst n v := by
  rcases h with ⟨-, rfl, rfl, rfl⟩ | ⟨-, rfl, rfl, rfl⟩ | ⟨-, rfl, rfl, rfl⟩ | ⟨-, rfl, rfl, rfl⟩ | ⟨-, rfl, rfl, rfl⟩ | ⟨-, rfl, rfl, rfl⟩ <;>
    simp [digs, quo, lowFirst, digit, wholeOf] <;> split <;> omega

theorem rput_kind (od s v : Int) (w : World) (hk : BadOrder od) :
    Calls Tryd.prog 17 #[i6 od, i6 s, i6 v] w fun e w' => e = .returned (strErr 10) ∧ Below w.heap.size w w' := by
  unfold BadOrder at hk
  have h1 : (od != 0) = true := by simp; omega
  have h2 : (od != 1) = true := by simp; omega
  clear hk
  have hq := Below.refl w.heap.size w
  go_enter Tryd.func17, Tryd.ntmps17
  go_wp2_with fail
  go_returns
  exact ⟨by first | rfl | (simp; done), hq⟩
theorem rput_size (od s v : Int) (w : World) (ho : od = 0 ∨ od = 1) (hk : BadSize s) :
    Calls Tryd.prog 17 #[i6 od, i6 s, i6 v] w fun e w' => e = .returned (strErr 17) ∧ Below w.heap.size w w' := by
  have h1 : ((decide (od = 0) : Bool) || decide (od = 1)) = true := by rcases ho with rfl | rfl <;> rfl
  have hq := Below.refl w.heap.size w
  rcases ho with rfl | rfl
  all_goals
    go_enter Tryd.func17, Tryd.ntmps17
    go_wp2_with fail
    refine (rsize_bad hk _).mono ?_
    rintro e w1 ⟨rfl, rfl⟩
    go_wp2_with fail
    go_returns
    exact ⟨by first | rfl | (simp; done), hq⟩
theorem rput_less (od s n lo hi v : Int) (w : World) (ho : od = 0 ∨ od = 1) (h : IsSpan s n lo hi) (hv : v < lo) :
    Calls Tryd.prog 17 #[i6 od, i6 s, i6 v] w fun e w' => e = .returned (strErr 1) ∧ Below w.heap.size w w' := by
  have hq := Below.refl w.heap.size w
  have hn : ¬ n = 0 := by have := h.size; omega
  have HN := Lib.hid h
  clear h
  rcases ho with rfl | rfl
  all_goals
    go_enter Tryd.func17, Tryd.ntmps17
    go_wp2_with fail
    refine (rsize_ok HN.out _).mono ?_
    rintro e w1 ⟨rfl, rfl⟩
    go_wp2_with fail
    refine (rleast_ok HN.out _).mono ?_
    rintro e w1 ⟨rfl, rfl⟩
    go_wp2_with fail
    go_returns
    exact ⟨by first | rfl | (simp; done), hq⟩
theorem rput_more (od s n lo hi v : Int) (w : World) (ho : od = 0 ∨ od = 1) (h : IsSpan s n lo hi) (hl : lo ≤ v) (hv : hi < v) :
    Calls Tryd.prog 17 #[i6 od, i6 s, i6 v] w fun e w' => e = .returned (strErr 1) ∧ Below w.heap.size w w' := by
  have hq := Below.refl w.heap.size w
  have hn : ¬ n = 0 := by have := h.size; omega
  have HN := Lib.hid h
  clear h
  rcases ho with rfl | rfl
  all_goals
    go_enter Tryd.func17, Tryd.ntmps17
    go_wp2_with fail
    refine (rsize_ok HN.out _).mono ?_
    rintro e w1 ⟨rfl, rfl⟩
    go_wp2_with fail
    refine (rleast_ok HN.out _).mono ?_
    rintro e w1 ⟨rfl, rfl⟩
    go_wp2_with fail
    refine (rmost_ok HN.out _).mono ?_
    rintro e w1 ⟨rfl, rfl⟩
    go_wp2_with fail
    go_returns
    exact ⟨by first | rfl | (simp; done), hq⟩
end Go.Proofs.YtbbblopackffiaaDoor
