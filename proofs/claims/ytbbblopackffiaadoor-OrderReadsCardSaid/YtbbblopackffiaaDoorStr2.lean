/- A number and its bytes, there and back; nothing of any program. -/
import Derived.Test.YtbbblopackffiaaDoorStr
namespace Go.Proofs.YtbbblopackffiaaDoor
open Go Go.RowKit

/-- The sizes: how many bytes, the least and the greatest number. -/
def IsSpan (s n lo hi : Int) : Prop := (s = 1 ∧ n = 1 ∧ lo = 0 ∧ hi = 255) ∨ (s = 2 ∧ n = 2 ∧ lo = 0 ∧ hi = 65535) ∨ (s = 4 ∧ n = 4 ∧ lo = 0 ∧ hi = 4294967295) ∨ (s = -1 ∧ n = 1 ∧ lo = -128 ∧ hi = 127) ∨ (s = -2 ∧ n = 2 ∧ lo = -32768 ∧ hi = 32767) ∨ (s = -4 ∧ n = 4 ∧ lo = -2147483648 ∧ hi = 2147483647)
theorem isSpan_ex {s : Int} (h : s = 1 ∨ s = 2 ∨ s = 4 ∨ s = -1 ∨ s = -2 ∨ s = -4) : ∃ n lo hi, IsSpan s n lo hi := by
  unfold IsSpan
  rcases h with rfl | rfl | rfl | rfl | rfl | rfl
  · exact ⟨1, 0, 255, by simp⟩
  · exact ⟨2, 0, 65535, by simp⟩
  · exact ⟨4, 0, 4294967295, by simp⟩
  · exact ⟨1, -128, 127, by simp⟩
  · exact ⟨2, -32768, 32767, by simp⟩
  · exact ⟨4, -2147483648, 2147483647, by simp⟩
theorem IsSpan.size {s n lo hi : Int} (h : IsSpan s n lo hi) : n = 1 ∨ n = 2 ∨ n = 4 := by unfold IsSpan at h; omega
theorem IsSpan.is {s n lo hi : Int} (h : IsSpan s n lo hi) : s = 1 ∨ s = 2 ∨ s = 4 ∨ s = -1 ∨ s = -2 ∨ s = -4 := by unfold IsSpan at h; omega
theorem IsSpan.bounds {s n lo hi : Int} (h : IsSpan s n lo hi) : -4294967296 ≤ lo ∧ lo ≤ 0 ∧ 0 ≤ hi ∧ hi ≤ 4294967296 := by unfold IsSpan at h; omega

theorem dec_enc {s n lo hi : Int} (h : IsSpan s n lo hi) (od v : Int) (h1 : lo ≤ v) (h2 : v ≤ hi) : dec od lo hi (enc od n v) = v := by
  have key : ∀ u, u = valLow (lowFirst n v) → (if hi < u then u - (hi - lo + 1) else u) = v := by
    intro u hu
    rcases h with ⟨-, rfl, rfl, rfl⟩ | ⟨-, rfl, rfl, rfl⟩ | ⟨-, rfl, rfl, rfl⟩ | ⟨-, rfl, rfl, rfl⟩ | ⟨-, rfl, rfl, rfl⟩ | ⟨-, rfl, rfl, rfl⟩ <;>
      simp [lowFirst, valLow, digit] at hu <;> split <;> omega
  unfold dec enc
  by_cases ho : od = 1
  · simp only [ho, if_true, List.reverse_reverse]
    exact key _ rfl
  · simp only [ho, if_false]
    exact key _ rfl
theorem enc_inj {s n lo hi : Int} (h : IsSpan s n lo hi) {od u v : Int} (h1 : lo ≤ v) (h2 : v ≤ hi) (h3 : lo ≤ u) (h4 : u ≤ hi) (e : enc od n u = enc od n v) : u = v := by
  rw [← dec_enc h od u h3 h4, e, dec_enc h od v h1 h2]

theorem lowFirst_val {s n lo hi : Int} (h : IsSpan s n lo hi) (xs : List Int) (hx : IsBytes xs) (hl : (xs.length : Int) = n) :
    ∀ u v, u = valLow xs → v = (if hi < u then u - (hi - lo + 1) else u) → lowFirst n v = xs ∧ lo ≤ v ∧ v ≤ hi := by
  intro u v hu hv
  rcases h with ⟨-, rfl, rfl, rfl⟩ | ⟨-, rfl, rfl, rfl⟩ | ⟨-, rfl, rfl, rfl⟩ | ⟨-, rfl, rfl, rfl⟩ | ⟨-, rfl, rfl, rfl⟩ | ⟨-, rfl, rfl, rfl⟩
  · match xs, hl with
    | [a], _ =>
      have := hx a (by simp)
      simp only [valLow] at hu
      split at hv <;> refine ⟨?_, by omega, by omega⟩ <;> simp [lowFirst, digit] <;> omega
  · match xs, hl with
    | [a, b], _ =>
      have := hx a (by simp)
      have := hx b (by simp)
      simp only [valLow] at hu
      split at hv <;> refine ⟨?_, by omega, by omega⟩ <;> simp [lowFirst, digit] <;> omega
  · match xs, hl with
    | [a, b, c, d], _ =>
      have := hx a (by simp)
      have := hx b (by simp)
      have := hx c (by simp)
      have := hx d (by simp)
      simp only [valLow] at hu
      split at hv <;> refine ⟨?_, by omega, by omega⟩ <;> simp [lowFirst, digit] <;> omega
  · match xs, hl with
    | [a], _ =>
      have := hx a (by simp)
      simp only [valLow] at hu
      split at hv <;> refine ⟨?_, by omega, by omega⟩ <;> simp [lowFirst, digit] <;> omega
  · match xs, hl with
    | [a, b], _ =>
      have := hx a (by simp)
      have := hx b (by simp)
      simp only [valLow] at hu
      split at hv <;> refine ⟨?_, by omega, by omega⟩ <;> simp [lowFirst, digit] <;> omega
  · match xs, hl with
    | [a, b, c, d], _ =>
      have := hx a (by simp)
      have := hx b (by simp)
      have := hx c (by simp)
      have := hx d (by simp)
      simp only [valLow] at hu
      split at hv <;> refine ⟨?_, by omega, by omega⟩ <;> simp [lowFirst, digit] <;> omega

theorem enc_dec {s n lo hi : Int} (h : IsSpan s n lo hi) (od : Int) (xs : List Int) (hx : IsBytes xs) (hl : (xs.length : Int) = n) :
    enc od n (dec od lo hi xs) = xs ∧ lo ≤ dec od lo hi xs ∧ dec od lo hi xs ≤ hi := by
  unfold enc dec
  by_cases ho : od = 1
  · simp only [ho, if_true]
    obtain ⟨h1, h2, h3⟩ := lowFirst_val h xs.reverse hx.reverse (by simpa using hl) _ _ rfl rfl
    exact ⟨by rw [h1, List.reverse_reverse], h2, h3⟩
  · simp only [ho, if_false]
    exact lowFirst_val h xs hx hl _ _ rfl rfl
end Go.Proofs.YtbbblopackffiaaDoor
