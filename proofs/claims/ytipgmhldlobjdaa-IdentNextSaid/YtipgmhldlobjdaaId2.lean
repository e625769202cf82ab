/- Layer 7: the least free id: the map of the taken ones, and the contract of Fresh. -/
import Derived.Test.YtipgmhldlobjdaaId
import Derived.WalkKit
import Derived.OwnWalk
import Derived.Maps.OwnOps
import Derived.Maps.OwnSet
import Derived.Maps.Views
namespace Go.Proofs.Ytipgmhldlobjdaa
open Go Go.RowKit Go.Maps
set_option linter.unusedSimpArgs false
set_option linter.unusedVariables false

/-- The map tells of each number whether it is one of S. -/
def Marks (D : DataW Unit) (S : Int → Prop) : Prop :=
  IsMap D ∧ ∀ x, ∃ b, D.atKey (.int .u32 x) (.lit (.bool false)) = .lit (.bool b) ∧ (b = true ↔ S x)

theorem marks_none : Marks (.map []) fun _ => False :=
  ⟨isMap_empty, fun _ => ⟨false, rfl, by simp⟩⟩

theorem marks_put {D : DataW Unit} {S : Int → Prop} (h : Marks D S) (y : Int) : Marks (D.put (.int .u32 y) (.lit (.bool true))) fun x => S x ∨ x = y := by
  refine ⟨h.1.put _ _, fun x => ?_⟩
  by_cases hx : x = y
  · subst hx
    exact ⟨true, atKey_put_same h.1 (k := .int .u32 x) (by unfold WideAt.IsKeyLit; trivial) _ _, by simp⟩
  · have hne : Lit.int .u32 x ≠ Lit.int .u32 y := fun e => hx (by cases e; rfl)
    obtain ⟨b, hb, hS⟩ := h.2 x
    exact ⟨b, (atKey_put_other hne _ _).trans hb, by rw [hS]; simp [hx]⟩

theorem marks_eq {D : DataW Unit} {S T : Int → Prop} (h : Marks D S) (hST : ∀ x, S x ↔ T x) : Marks D T :=
  ⟨h.1, fun x => by obtain ⟨b, hb, hS⟩ := h.2 x; exact ⟨b, hb, hS.trans (hST x)⟩⟩

theorem wpList_lookup_marks {P : Program} (w : World) {ops : Array Oper} {rest : List Oper} {o : Oper} {a : Act} {Q : Exit → Act → World → Prop}
    (hg : o.guard = none) (m x : Operand) (t : TypeId) (hop : o.op = Op.lookup t m x false)
    (k e : TypeId) (hk : P.underlying k = some (.int .u32)) (ht : P.underlying t = some (.map k e)) (he : P.underlying e = some .bool) (hz : (zeroValue e).run P w = .ok (.bool false) w) (b n : Nat) (D : DataW Unit) (S : Int → Prop)
    (hm : a.eval m = .map (some b)) (hown : w.ownsMap P k (plainElem P e) b n D) (hM : Marks D S) (g : Int) (hx : a.eval x = .int .u32 g) (hw : (Lit.int .u32 g).wf = true) (v : Bool) (hv : v = true ↔ S g)
    (hK : wpList P ops Q rest (a.put o.dst (.bool v)) w) : wpList P ops Q (o :: rest) a w := by
  refine wpList_plain hg fun K' hK' => ?_
  obtain ⟨r, ps, hrun, hr⟩ := hown.lookup (int_keyed hk) ht hz (plainElem_bool he false) (keyOf_int_mk hk hw)
  obtain ⟨b', hb', hS⟩ := hM.2 g
  rw [hb'] at hr
  have hbv : b' = v := by
    cases b' <;> cases v <;> simp_all
  subst hbv
  have hrv : r = .bool b' := by
    unfold plainElem at hr
    rw [he] at hr
    cases r <;> simp at hr
    rw [hr.1]
  subst hrv
  unfold Oper.wp
  simp [execOp, hop, hm, hx, hrun, Result.andThen]
  exact hK' _ _ hK

/-! ### the least free one -/
def Least (base : Int) (us : List Int) (g : Int) : Prop := base < g ∧ g < base + 1048576 ∧ ¬ g ∈ us ∧ ∀ x, base < x → x < g → x ∈ us
def AllUsed (base : Int) (us : List Int) : Prop := ∀ x, base < x → x < base + 1048576 → x ∈ us
open Classical in
noncomputable def freshOf (base : Int) (us : List Int) : Int := if h : ∃ g, Least base us g then h.choose else 0

theorem least_unique {base : Int} {us : List Int} {g g' : Int} (h : Least base us g) (h' : Least base us g') : g = g' := by
  rcases Int.lt_trichotomy g g' with hl | he | hl
  · exact absurd (h'.2.2.2 g h.1 hl) h.2.2.1
  · exact he
  · exact absurd (h.2.2.2 g' h'.1 hl) h'.2.2.1
theorem freshOf_least {base : Int} {us : List Int} {g : Int} (h : Least base us g) : freshOf base us = g := by
  unfold freshOf
  rw [dif_pos ⟨g, h⟩]
  exact least_unique (Exists.choose_spec (p := fun g => Least base us g) ⟨g, h⟩) h
theorem freshOf_full {base : Int} {us : List Int} (h : AllUsed base us) : freshOf base us = 0 := by
  unfold freshOf
  rw [dif_neg]
  rintro ⟨g, hg⟩
  exact hg.2.2.1 (h g hg.1 hg.2.1)

/-- What Fresh tells of a right client. -/
noncomputable def freshRes (base : Int) (us : List Int) : Value := .tuple #[u3 (freshOf base us), .bool (decide (0 < freshOf base us))]

theorem und_id : Try.prog.underlying 23 = some (.int .u32) := by kernel_rfl
theorem und_bool : Try.prog.underlying 4 = some .bool := by kernel_rfl
theorem und_map : Try.prog.underlying 44 = some (.map 23 4) := by kernel_rfl
theorem zero_bool (w : World) : (zeroValue 4).run Try.prog w = .ok (.bool false) w := by kernel_rfl

theorem take_step (us : List Int) (k : Nat) (hk : k < us.length) (x : Int) : (x ∈ us.take k ∨ x = us.getD k 0) ↔ x ∈ us.take (k + 1) := by
  rw [List.take_add_one, List.getElem?_eq_getElem hk, Option.toList_some, List.mem_append, List.mem_singleton, List.getD_eq_getElem?_getD, List.getElem?_eq_getElem hk]
  exact Iff.rfl

theorem wf_u3 {g : Int} (h : 0 ≤ g) (h' : g < 4294967296) : (Lit.int .u32 g).wf = true := by
  simp [Lit.wf, IntKind.min, IntKind.max, IntKind.bits, IntKind.signed]; omega

abbrev OwnsM (w : World) (b n : Nat) (D : DataW Unit) : Prop := w.ownsMap Try.prog 23 (plainElem Try.prog 4) b n D

set_option maxRecDepth 100000 in
set_option maxHeartbeats 2000000 in
theorem fresh_some (c : Int) (b off len cap : Nat) (us : List Int) (w : World) (hcl : 1 ≤ c) (hcl' : c ≤ 8) (hlen : len = us.length) (hreach : len ≤ 1000) (hb : b < w.heap.size)
    (hc : ∀ j, j < us.length → w.cell? ⟨b, off + j, none⟩ = some (u3 (us.getD j 0))) (hwz : ∀ n ∈ us, 0 ≤ n ∧ n < 4294967296) :
    Calls Try.prog 15 #[i6 c, .slice (some ⟨b, off, none⟩) len cap] w fun e w' => e = .returned (freshRes (c * 1048576) us) ∧ Below w.heap.size w w' := by
  subst hlen
  have hmm := @run_makeMap Try.prog
  have e1 : IntKind.u32.wrap (c * 1048576 + 1) = c * 1048576 + 1 := u32_in (by omega) (by omega)
  have e2 : IntKind.u32.wrap (c * 1048576 + 1048576) = c * 1048576 + 1048576 := u32_in (by omega) (by omega)
  go_enter Try.func15, Try.ntmps15
  go_wp2_with fail
  refine (base_ok _ _ hcl hcl').mono ?_
  rintro e w1 ⟨rfl, rfl⟩
  go_wp2_with fail
  go_loopw [22] (fun i wr => ∃ k : Nat, k ≤ us.length ∧ i = .int .i64 k ∧ (∃ D, OwnsM wr w.heap.size k D ∧ Marks D fun x => x ∈ us.take k) ∧ Below w.heap.size w wr)
    (fun i _ => us.length - (intOf i).toNat)
  case atStart => exact ⟨0, Nat.zero_le _, rfl, ⟨.map [], World.ownsMap_made _ _ _ _, marks_eq marks_none (by simp)⟩, (Below.refl _ _).alloc (Nat.le_refl _) _⟩
  case round =>
    obtain ⟨k, hk, rfl, ⟨D, hown, hM⟩, hnx⟩ := hrel
    by_cases hlt : k < us.length
    · have hmem : us.getD k 0 ∈ us := by
        rw [List.getD_eq_getElem?_getD, List.getElem?_eq_getElem hlt]; exact List.getElem_mem hlt
      have hcx : wr.cell? ⟨b, off + k, none⟩ = some (u3 (us.getD k 0)) := (hnx.cell (p := ⟨b, off + k, none⟩) hb).trans (hc k hlt)
      have hst := take_step us k hlt
      generalize us.getD k 0 = y at hmem hcx hst
      have hkey : keyOf Try.prog 23 (u3 y) = some (.int .u32 y) := keyOf_int_mk und_id (wf_u3 (hwz _ hmem).1 (hwz _ hmem).2)
      go_wp2_with (first
        | (at_mapUpdate; refine wpList_mapUpdate_own _ rfl _ _ _ 44 rfl 23 4 (int_keyed und_id) und_map _ w.heap.size k _ rfl hown (by unfold maxLen; omega) _ _ _ rfl rfl hkey _ [] (plainElem_bool und_bool true) ?_; intro w1 hown1 hgrow1)
        | go_in)
      go_roundw
      case rel => exact ⟨k + 1, by omega, by go_num, ⟨_, hown1, marks_eq (marks_put hM _) hst⟩, hnx.grown hgrow1 hnx.size (fun j hj => by cases hj; exact Nat.le_refl _)⟩
      case measure => simp [intOf]; omega
    · have hkl : k = us.length := by omega
      subst hkl
      rw [List.take_length] at hM
      go_wp2_with fail
      go_loopw [11] (fun i ws => ∃ g : Int, i = .int .u32 g ∧ c * 1048576 < g ∧ g ≤ c * 1048576 + 1048576 ∧ (∀ x, c * 1048576 < x → x < g → x ∈ us) ∧ ws = wr)
        (fun i _ => (c * 1048576 + 1048576 - intOf i).toNat)
      case atStart => exact ⟨c * 1048576 + 1, by first | rfl | simp [e1], by omega, by omega, fun x h1 h2 => by omega, by trivial⟩
      case round =>
        obtain ⟨g, rfl, hg1, hg2, hall, rfl⟩ := hrel
        by_cases hend : g < c * 1048576 + 1048576
        · by_cases hm : g ∈ us
          · have e3 : IntKind.u32.wrap (g + 1) = g + 1 := u32_in (by omega) (by omega)
            have hwf := wf_u3 (g := g) (by omega) (by omega)
            go_wp2_with (first
              | (at_lookup; refine wpList_lookup_marks _ rfl _ _ 44 rfl 23 4 und_id und_map und_bool (zero_bool _) w.heap.size us.length _ _ rfl hown hM g rfl hwf true (by simp [hm]) ?_)
              | go_in)
            go_roundw
            case rel => exact ⟨g + 1, by first | rfl | simp [e3], by omega, by omega, fun x h1 h2 => by
              by_cases hx : x = g
              · rw [hx]; exact hm
              · exact hall x h1 (by omega), by trivial⟩
            case measure => simp [intOf]; omega
          · have hwf := wf_u3 (g := g) (by omega) (by omega)
            have hl : Least (c * 1048576) us g := ⟨hg1, hend, hm, hall⟩
            have hf := freshOf_least hl
            go_wp2_with (first
              | (at_lookup; refine wpList_lookup_marks _ rfl _ _ 44 rfl 23 4 und_id und_map und_bool (zero_bool _) w.heap.size us.length _ _ rfl hown hM g rfl hwf false (by simp [hm]) ?_)
              | go_in)
            go_returns
            refine ⟨?_, hnx⟩
            unfold freshRes
            rw [hf, decide_eq_true (by omega)]
            rfl
        · have hf := freshOf_full (base := c * 1048576) (us := us) fun x h1 h2 => hall x h1 (by omega)
          go_wp2_with fail
          go_returns
          refine ⟨?_, hnx⟩
          unfold freshRes
          rw [hf]
          rfl
end Go.Proofs.Ytipgmhldlobjdaa
