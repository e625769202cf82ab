/- Layer 38: Ps32, Ps33a, Ps33, Ps34 put together. -/
import Derived.Test.YtmcndiljldbkcaaPsM1
import Derived.Test.YtmcndiljldbkcaaPs16
import Derived.Laws.Slices
/- Layer 38: grabs deleted in place: the row while it goes; the builtin clear. -/
namespace Go.Proofs.Ytmcndiljldbkcaa
open Go Go.RowKit
set_option linter.unusedSimpArgs false
set_option linter.unusedVariables false
theorem zero_grab (w : World) : (zeroValue 35).run Try.prog w = .ok zeroG w := by
  obtain ⟨i0, hi, hz0, hz1, hz2⟩ := info_parts info_grab
  simp [zeroValue, typeInfo, hi, hz0, go_sem]
theorem clear_grabs (w : World) (ty : TypeId) (b o n c : Nat) (hn : 0 < n) (hc : w.there b o (n * 9)) :
    (Builtin.clear_ #[25] ty #[.slice (some ⟨b, o, none⟩) n c]).run Try.prog w = .ok (.tuple #[]) (w.setCells b o (Builtin.zeroCells zeroG.cells n).toList) := by
  have hsz : (Builtin.zeroCells zeroG.cells n).toList.length = n * 9 := by
    rw [Array.length_toList, size_zeroCells]; rfl
  have hst := run_storeCells_cells (P := Try.prog) b o (Builtin.zeroCells zeroG.cells n).toList 0 w
    (by intro j hj; rw [hsz] at hj; simpa using (hc j hj).1) (by intro j hj; rw [hsz] at hj; simpa using (hc j hj).2)
    (by
      intro v hv
      simp only [Builtin.zeroCells, Array.toList_map, List.mem_map] at hv
      obtain ⟨i, _, rfl⟩ := hv
      have h9 : i % zeroG.cells.size < 9 := Nat.mod_lt _ (by decide)
      generalize i % zeroG.cells.size = q at h9
      match q, h9 with
      | 0, _ | 1, _ | 2, _ | 3, _ | 4, _ | 5, _ | 6, _ | 7, _ | 8, _ => rfl)
  simp only [Nat.add_zero] at hst
  obtain ⟨m, rfl⟩ : ∃ m, n = m + 1 := ⟨n - 1, by omega⟩
  simp [Builtin.clear_, run_underlying und_grabs, zero_grab, hst]
theorem clear_none (w : World) (ty : TypeId) (a : Option Addr) (c : Nat) :
    (Builtin.clear_ #[25] ty #[.slice a 0 c]).run Try.prog w = .ok (.tuple #[]) w := by
  cases a <;> simp [Builtin.clear_, run_underlying und_grabs]
/-- The row in block c, of n grabs, when the first k have been looked at. -/
structure DelAt (W : World) (c n k : Nat) (p : G → Bool) (gs : List G) : Prop where
  lt : c < W.heap.size
  there : W.there c 0 (n * 9)
  done : LayG W c 0 (leftL p (gs.take k))
  rest : ∀ (j : Nat) (x : G), k ≤ j → gs[j]? = some x → ∀ (q : Nat) (u : Value), (gL x)[q]? = some u → W.cell? ⟨c, j * 9 + q, none⟩ = some u
theorem there_below {W W' : World} {c n : Nat} (h : W.there c 0 n) (hb : Below W.heap.size W W') : W'.there c 0 n := by
  intro j hj
  obtain ⟨h1, h2⟩ := h j hj
  obtain ⟨v, hv⟩ := Option.isSome_iff_exists.1 h1
  exact ⟨by rw [cell_below hb hv]; rfl, frozen_below hb hv h2⟩
theorem DelAt.below {W W' : World} {c n k : Nat} {p : G → Bool} {gs : List G} (h : DelAt W c n k p gs) (hb : Below W.heap.size W W') : DelAt W' c n k p gs :=
  ⟨Nat.lt_of_lt_of_le h.lt hb.size, there_below h.there hb, h.done.below hb, fun j x hk hx q u hu => cell_below hb (h.rest j x hk hx q u hu)⟩
theorem left_take {p : G → Bool} {gs : List G} {k : Nat} {x : G} (hx : gs[k]? = some x) : leftL p (gs.take (k + 1)) = leftL p (gs.take k) ++ if p x then [] else [x] := by
  unfold leftL
  rw [List.take_add_one, hx, List.filter_append]
  cases hp : p x <;> simp [hp]
theorem DelAt.skip {W : World} {c n k : Nat} {p : G → Bool} {gs : List G} {x : G} (h : DelAt W c n k p gs) (hx : gs[k]? = some x) (hp : p x = true) : DelAt W c n (k + 1) p gs :=
  ⟨h.lt, h.there, by rw [left_take hx, hp]; simpa using h.done, fun j y hk => h.rest j y (by omega)⟩
theorem DelAt.put {W : World} {c n k i : Nat} {p : G → Bool} {gs : List G} {x : G} (h : DelAt W c n k p gs) (hn : gs.length = n) (hx : gs[k]? = some x) (hp : p x = false) (hi : (leftL p (gs.take k)).length = i) :
    DelAt (W.setCells c (i * 9) (gL x)) c n (k + 1) p gs := by
  have hik : i ≤ k := hi ▸ left_len _ _ _
  have hkn : k < n := hn ▸ (List.getElem?_eq_some_iff.1 hx).1
  have hin : ∀ q, q < (gL x).length → (W.cell? ⟨c, i * 9 + q, none⟩).isSome = true := by
    intro q hq
    rw [gL_len] at hq
    have := (h.there (i * 9 + q) (by omega)).1
    rwa [Nat.zero_add] at this
  refine ⟨Nat.lt_of_lt_of_le h.lt (below_setCells' (B := 0) (Nat.zero_le _) _ _ (Below.refl 0 W)).size, ?_, ?_, ?_⟩
  · intro j hj
    obtain ⟨h1, h2⟩ := h.there j hj
    refine ⟨?_, by rw [World.frozen?_setCells]; exact h2⟩
    rw [Nat.zero_add] at h1 ⊢
    by_cases hjj : i * 9 ≤ j ∧ j < i * 9 + 9
    · have h3 := World.cell?_setCells_in c (gL x) (i * 9) W hin (j - i * 9) (by rw [gL_len]; omega)
      rw [show i * 9 + (j - i * 9) = j by omega] at h3
      rw [h3]; rfl
    · rw [World.cell?_setCells_out _ _ _ _ _ (fun _ _ => by rw [gL_len]; dsimp only; omega)]; exact h1
  · rw [left_take hx, hp]
    intro e y he j u hj
    have hj9 : j < 9 := by have := (List.getElem?_eq_some_iff.1 hj).1; rw [gL_len] at this; exact this
    by_cases hei : e < i
    · rw [List.getElem?_append_left (by rw [hi]; exact hei)] at he
      rw [World.cell?_setCells_out _ _ _ _ _ (fun _ _ => by rw [gL_len]; dsimp only; omega)]
      exact h.done e y he j u hj
    · rw [List.getElem?_append_right (by rw [hi]; omega), hi] at he
      have he0 : e = i := by
        have := (List.getElem?_eq_some_iff.1 he).1
        simp at this
        omega
      subst he0
      simp at he
      subst he
      rw [Nat.zero_add, World.cell?_setCells_in c (gL x) (e * 9) W hin j (by rw [gL_len]; exact hj9), ← List.getElem?_eq_getElem]
      exact hj
  · intro j y hk hy q u hu
    have hq9 : q < 9 := by have := (List.getElem?_eq_some_iff.1 hu).1; rw [gL_len] at this; exact this
    rw [World.cell?_setCells_out _ _ _ _ _ (fun _ _ => by rw [gL_len]; dsimp only; omega)]
    exact h.rest j y (by omega) hy q u hu
/-- Behind the clear: what was left lies there still. -/
theorem DelAt.cleared {W : World} {c n : Nat} {p : G → Bool} {gs : List G} (h : DelAt W c n n p gs) (hn : gs.length = n) {m : Nat} (hm : (leftL p gs).length = m) (vs : List Value) : LayG (W.setCells c (m * 9) vs) c 0 (leftL p gs) := by
  have hd := h.done
  rw [← hn, List.take_length] at hd
  intro e y he j u hj
  have hj9 : j < 9 := by have := (List.getElem?_eq_some_iff.1 hj).1; rw [gL_len] at this; exact this
  have hem : e < m := hm ▸ (List.getElem?_eq_some_iff.1 he).1
  rw [World.cell?_setCells_out _ _ _ _ _ (fun _ _ => Or.inl (by dsimp only; omega))]
  exact hd e y he j u hj
theorem DelAt.start {W : World} {B c n cap k : Nat} {p : G → Bool} {gs : List G} {x : G} (hn : gs.length = n) (h : W.ownsRow B 35 9 (.slice (some ⟨c, 0, none⟩) n cap) n (cellsG gs)) (hc : c < W.heap.size)
    (hno : ∀ (j : Nat) (y : G), j < k → gs[j]? = some y → p y = false) (hx : gs[k]? = some x) (hp : p x = true) :
    DelAt W c n (k + 1) p gs ∧ (leftL p (gs.take (k + 1))).length = k := by
  have hkn : k < n := hn ▸ (List.getElem?_eq_some_iff.1 hx).1
  have hall : leftL p (gs.take k) = gs.take k := by
    unfold leftL
    rw [List.filter_eq_self]
    intro y hy
    obtain ⟨j, hj, e⟩ := List.getElem_of_mem hy
    rw [List.length_take] at hj
    have := hno j y (by omega) (by rw [← e, List.getElem_take]; exact List.getElem?_eq_getElem _)
    rw [this]; rfl
  have hcell : ∀ (j : Nat) (y : G), gs[j]? = some y → ∀ (q : Nat) (u : Value), (gL y)[q]? = some u → W.cell? ⟨c, j * 9 + q, none⟩ = some u := by
    intro j y hy q u hu
    have hq9 : q < 9 := by have := (List.getElem?_eq_some_iff.1 hu).1; rw [gL_len] at this; exact this
    have hjn : j < n := hn ▸ (List.getElem?_eq_some_iff.1 hy).1
    exact (h.cellAt (j * 9 + q) (by omega)).trans ((cellsG_at gs j y hy q hq9).trans hu)
  refine ⟨⟨hc, ?_, ?_, fun j y _ hy => hcell j y hy⟩, ?_⟩
  · intro j hj
    rw [Nat.zero_add]
    exact ⟨by rw [h.cellAt j (by omega), List.getElem?_eq_getElem (by rw [cellsG_len]; omega)]; rfl, h.frozenAt _⟩
  · rw [left_take hx, hp, hall]
    simp only [if_true, List.append_nil]
    intro e y he j u hj
    rw [Nat.zero_add]
    have hek : e < k := by have := (List.getElem?_eq_some_iff.1 he).1; rw [List.length_take] at this; omega
    rw [List.getElem?_take_of_lt hek] at he
    exact hcell e y he j u hj
  · rw [left_take hx, hp, hall]
    simp only [if_true, List.append_nil, List.length_take]
    omega
end Go.Proofs.Ytmcndiljldbkcaa
/- Layer 38: parts of slices of grabs. -/
namespace Go.Proofs.Ytmcndiljldbkcaa
open Go Go.RowKit
set_option linter.unusedSimpArgs false
set_option linter.unusedVariables false
theorem elem_grabs : Try.prog.elem 25 = 35 := by kernel_rfl
theorem size_grab (w : World) : (sizeOf (Try.prog.elem 25)).run Try.prog w = .ok 9 w := by rw [elem_grabs]; kernel_rfl
theorem slice_from (c n cap m : Nat) (h : m < n) (hc : n ≤ cap) (w : World) : (Instr.slice 25 (.slice (some ⟨c, 0, none⟩) n cap) (some (.int .i64 (m : Int))) none none).run Try.prog w = .ok (.slice (some ⟨c, m * 9, none⟩) (n - m) (cap - m)) w := by
  rw [run_slice_l w _ _ n cap und_grabs' .i64 (m : Int) (by omega) (by omega), size_grab]
  simp only [Result.andThen, sliced, Int.toNat_natCast, Option.map_some]
  rw [if_neg (by omega)]
  simp [Addr.add]
  try (intro h; omega)
theorem slice_to (c n cap m : Nat) (h : m ≤ cap) (h0 : 0 < cap) (w : World) : (Instr.slice 25 (.slice (some ⟨c, 0, none⟩) n cap) none (some (.int .i64 (m : Int))) none).run Try.prog w = .ok (.slice (some ⟨c, 0, none⟩) m cap) w := by
  rw [run_slice_h w _ _ n cap und_grabs' .i64 (m : Int) (by omega) (by omega), size_grab]
  simp only [Result.andThen, sliced, Int.toNat_natCast, Option.map_some]
  rw [if_neg (by omega)]
  simp [Addr.add]
/-- Where a list lies: in blocks B and above. -/
def FarG (B : Nat) (v : Value) : Prop := ∀ (b o n c : Nat), v = .slice (some ⟨b, o, none⟩) n c → B ≤ b
theorem left_all {p : G → Bool} {gs : List G} (h : ∀ x ∈ gs, p x = false) : leftL p gs = gs := by
  unfold leftL
  rw [List.filter_eq_self]
  intro y hy
  rw [h y hy]; rfl
theorem own_far {w : World} {B n : Nat} {v : Value} {e : TypeId} {s : Nat} {xs : List Value} (h : w.ownsRow B e s v n xs) : FarG B v := by
  rintro b o n' c rfl
  rcases h.2 with ⟨e, _⟩ | ⟨g, cap, cur, e, h1, _⟩
  · injection e with e1; cases e1
  · injection e with e1 e2 e3
    injection e1 with e1
    injection e1 with e1
    omega
theorem below_le {B B' : Nat} {w w' : World} (h : Below B w w') (hb : B' ≤ B) : Below B' w w' := ⟨h.os, h.tape, h.output, h.size, fun k hk => h.block k (by omega)⟩
theorem below_tr {B : Nat} {a b c : World} (h : Below B a b) (h' : Below B b c) : Below B a c := ⟨h'.os.trans h.os, h'.tape.trans h.tape, h'.output.trans h.output, Nat.le_trans h.size h'.size, fun k hk => (h'.block k hk).trans (h.block k hk)⟩
end Go.Proofs.Ytmcndiljldbkcaa
/- Layer 38: grabs deleted from a row. -/
namespace Go.Proofs.Ytmcndiljldbkcaa
open Go Go.RowKit
set_option linter.unusedSimpArgs false
set_option linter.unusedVariables false
set_option maxRecDepth 100000 in
set_option maxHeartbeats 16000000 in
theorem delete_d (B : Nat) (c1 c2 c3 c4 c5 : Nat) (p : G → Bool) (gs : List G) (v : Value) (w : World) (hB : B ≤ w.heap.size) (hv : IsG w v gs) (ho : 0 < gs.length → OwnG w B v gs) (hl : gs.length ≤ 1000)
    (hF : ∀ W x, Below B w W → Calls Try.prog 47 #[gV x, .pointer (some ⟨c1, 0, none⟩), .pointer (some ⟨c2, 0, none⟩), .pointer (some ⟨c3, 0, none⟩), .pointer (some ⟨c4, 0, none⟩), .pointer (some ⟨c5, 0, none⟩)] W fun e w' => e = .returned (.bool (p x)) ∧ Below W.heap.size W w') :
    Calls Try.prog 44 #[v, .func (.func 47) #[] #[.pointer (some ⟨c1, 0, none⟩), .pointer (some ⟨c2, 0, none⟩), .pointer (some ⟨c3, 0, none⟩), .pointer (some ⟨c4, 0, none⟩), .pointer (some ⟨c5, 0, none⟩)]] w fun e w' => ∃ v', e = .returned v' ∧ IsG w' v' (leftL p gs) ∧ (0 < gs.length → FarG B v') ∧ Below B w w' := by
  have HV := Lib.hid hv
  have HO := Lib.hid ho
  have HF := Lib.hid hF
  have HB := hB
  clear hF hB ho
  obtain ⟨A, cap, rfl, _⟩ := hv
  obtain ⟨n, hn⟩ : ∃ n, gs.length = n := ⟨_, rfl⟩
  have hl1 := hl
  rw [hn] at hl HV HO ⊢
  have HN := Lib.hid hn
  clear hn
  go_enter Try.func44, Try.ntmps44
  go_wp2_with fail
  refine (index_d c1 c2 c3 c4 c5 p gs _ w HV.out hl1 (fun W x h => HF.out W x (below_le h HB))).mono ?_
  rintro e w1 ⟨r, rfl, hr, hb⟩
  rcases hr with ⟨rfl, hno⟩ | ⟨k0, x0, rfl, hx0, hp0, hno⟩
  · have HR : Hid (IsG w1 (.slice A n cap) (leftL p gs)) := Lib.hid (by rw [left_all hno]; exact HV.out.below hb)
    clear hno
    go_wp2_with fail
    go_returns
    exact ⟨_, rfl, HR.out, fun h => own_far (HO.out h), below_le hb HB⟩
  · have hk0 : k0 < n := by have := (List.getElem?_eq_some_iff.1 hx0).1; have := HN.out; omega
    replace HO : Hid (OwnG w B (.slice A n cap) gs) := Lib.hid (HO.out (by omega))
    obtain ⟨c, rfl⟩ : ∃ c, A = some ⟨c, 0, none⟩ := by
      obtain ⟨g', cap', e⟩ := Joins.ownsRow_form HO.out (by rw [HN.out]; omega)
      injection e with e1 e2 e3
      exact ⟨_, e1⟩
    have hcl := HO.out.lt c rfl
    have hcap : n ≤ cap := by
      rcases HO.out.2 with ⟨e, _⟩ | ⟨g, cap', cur, e, _, _, h3, _⟩
      · injection e with e1; cases e1
      · injection e with e1 e2 e3
        have := HN.out
        omega
    have HO1 : Hid (w1.ownsRow B 35 9 (.slice (some ⟨c, 0, none⟩) n cap) n (cellsG gs)) := Lib.hid (by
      have h1 := HO.out
      unfold OwnG at h1
      rw [HN.out] at h1
      exact own_below h1 hb)
    obtain ⟨hd, hlen⟩ := DelAt.start HN.out HO1.out (Nat.lt_of_lt_of_le hcl.2 hb.size) hno hx0 hp0
    have HD0 := Lib.hid hd
    have HLEN := Lib.hid hlen
    have HQ1 := Lib.hid (below_le hb HB)
    have hcB : B ≤ c := hcl.1
    have hk1 : ((k0 : Int) == -1) = false := by simp <;> omega
    clear hd hlen hno hx0 hp0 hb hcl
    go_wp2_with fail
    go_loopw [5, 6] (fun a b wr => ∃ i k : Nat, i < k ∧ k ≤ n ∧ a = .int .i64 i ∧ b = .int .i64 k ∧ Hid (DelAt wr c n k p gs) ∧ Hid ((leftL p (gs.take k)).length = i) ∧ Hid (Below B w wr))
      (fun _ b _ => n - (intOf b).toNat)
    case atStart => exact ⟨k0, k0 + 1, by omega, by omega, rfl, by first | rfl | (go_num; done) | (simp; done), HD0, HLEN, HQ1⟩
    case round =>
      obtain ⟨i, k, hik, hk, rfl, rfl, hd, hlen, hq⟩ := hrel
      by_cases hlt : k < n
      · obtain ⟨x, hx⟩ : ∃ x, gs[k]? = some x := ⟨_, List.getElem?_eq_getElem (by have := HN.out; omega)⟩
        have HX := Lib.hid hx
        have hki : (k : Int) < (n : Int) := by omega
        have hlx := fun q u hu => hd.out.rest k x (Nat.le_refl _) hx q u hu
        have d0 := hlx 0 _ rfl
        rw [Nat.add_zero] at d0
        have d1 := hlx 1 _ rfl
        have d2 := hlx 2 _ rfl
        have d3 := hlx 3 _ rfl
        have d4 := hlx 4 _ rfl
        have d5 := hlx 5 _ rfl
        have d6 := hlx 6 _ rfl
        have d7 := hlx 7 _ rfl
        have d8 := hlx 8 _ rfl
        clear hlx hx
        go_wp2_with fail
        refine calls_world (fun W => Below wr.heap.size wr W ∧ Blk W wr.heap.size (gL x)) ⟨by (repeat' (first | with_reducible exact Below.refl _ _ | with_reducible assumption | with_reducible refine q_alloc ?_ _ | with_reducible refine q_drew ?_ | with_reducible refine q_drewN _ ?_ | with_reducible refine q_setCell ?_ ?_ _ | (left; simp; done) | (right; simp; done) | (right; dsimp only; omega) | (left; dsimp only; omega))), Blk.new rfl⟩ ?_
        intro W2 ⟨hq2, c2⟩
        have hd2 := hd.out.below hq2
        have hB2 : B ≤ wr.heap.size := Nat.le_trans hcB (Nat.le_of_lt hd.out.lt)
        have hqq := below_tr hq.out (below_le hq2 hB2)
        have hcw : c < wr.heap.size := hd.out.lt
        clear d0 d1 d2 d3 d4 d5 d6 d7 d8
        refine (HF.out W2 x hqq).mono ?_
        rintro e w3 ⟨rfl, hb3⟩
        have C3 := Lib.hid (c2.below hb3)
        have HD3 := Lib.hid (hd2.below hb3)
        have hsz2 : wr.heap.size ≤ W2.heap.size := hq2.size
        have HQ3 := Lib.hid (below_tr hqq (below_le hb3 (Nat.le_trans hB2 hsz2)))
        clear hqq hd2 c2 hb3 hq2 hd hq
        cases hp : p x with
        | true =>
          have HD4 := Lib.hid (HD3.out.skip HX.out hp)
          have HL4 : Hid ((leftL p (gs.take (k + 1))).length = i) := Lib.hid (by rw [left_take HX.out, hp]; simpa using hlen.out)
          clear hp
          go_wp2_with fail
          go_roundw
          case rel => exact ⟨i, k + 1, by omega, by omega, rfl, by go_num, HD4, HL4, HQ3⟩
          case measure => simp [intOf] <;> omega
        | false =>
          have HL4 : Hid ((leftL p (gs.take (k + 1))).length = i + 1) := Lib.hid (by rw [left_take HX.out, hp]; have := hlen.out; simp; omega)
          have HD4 := Lib.hid (HD3.out.put HN.out HX.out hp hlen.out)
          have HQ4 := Lib.hid (below_setCells' hcB (gL x) (i * 9) HQ3.out)
          have hin : (i : Int) < (n : Int) := by omega
          have y0 := C3.out.cell 0 rfl
          have y1 := C3.out.cell 1 rfl
          have y2 := C3.out.cell 2 rfl
          have y3 := C3.out.cell 3 rfl
          have y4 := C3.out.cell 4 rfl
          have y5 := C3.out.cell 5 rfl
          have y6 := C3.out.cell 6 rfl
          have y7 := C3.out.cell 7 rfl
          have y8 := C3.out.cell 8 rfl
          have HTH : Hid (w3.there c (i * 9) (gL x).toArray.size) := Lib.hid (by
            rw [List.size_toArray, gL_len]
            intro j hj
            have := HD3.out.there (i * 9 + j) (by omega)
            rwa [Nat.zero_add] at this)
          obtain ⟨w6, hw6⟩ : ∃ w6, w3.setCells c (i * 9) (gL x) = w6 := ⟨_, rfl⟩
          have HW6 : Hid (w3.setCells c (i * 9) (gL x).toArray.toList = w6) := Lib.hid hw6
          rw [hw6] at HD4 HQ4
          clear hw6 hp
          go_wp2_with (with_reducible refine at_store 35 ?_; refine wpList_store_mid rfl 35 _ _ rfl c _ (gL x).toArray rfl rfl HTH.out (info_size x) (one_cells x) ?_; rw [HW6.out])
          go_roundw
          case rel => exact ⟨i + 1, k + 1, by omega, by omega, by go_num, by go_num, HD4, HL4, HQ4⟩
          case measure => simp [intOf] <;> omega
      · obtain rfl : k = n := by omega
        have hm : (leftL p gs).length = i := by have := hlen.out; rw [← HN.out, List.take_length] at this; exact this
        have HTH : wr.there c (i * 9) ((k - i) * 9) := fun j hj => by
          have := hd.out.there (i * 9 + j) (by omega)
          rwa [Nat.zero_add] at this
        have hclr := fun ty => clear_grabs wr ty c (i * 9) (k - i) (cap - i) (by omega) HTH
        obtain ⟨vs, hvs⟩ : ∃ vs, (Builtin.zeroCells zeroG.cells (k - i)).toList = vs := ⟨_, rfl⟩
        rw [hvs] at hclr
        have HL : Hid (LayG (wr.setCells c (i * 9) vs) c 0 (leftL p gs)) := Lib.hid (hd.out.cleared HN.out hm vs)
        have HQ5 : Hid (Below B w (wr.setCells c (i * 9) vs)) := Lib.hid (below_setCells' hcB vs (i * 9) hq.out)
        have hsz : c < (wr.setCells c (i * 9) vs).heap.size := Nat.lt_of_lt_of_le hd.out.lt (below_setCells' (B := 0) (Nat.zero_le _) _ _ (Below.refl 0 wr)).size
        obtain ⟨w6, hw6⟩ : ∃ w6, wr.setCells c (i * 9) vs = w6 := ⟨_, rfl⟩
        rw [hw6] at hclr HL HQ5 hsz
        have hfrom := slice_from c k cap i hik hcap
        have hto := slice_to c k cap i (by omega) (by omega)
        have HM := Lib.hid hm
        clear hw6 hvs hm HTH hd hlen hq
        go_wp2_with fail
        go_returns
        refine ⟨.slice (some ⟨c, 0, none⟩) i cap, rfl, ⟨some ⟨c, 0, none⟩, cap, by rw [HM.out], fun _ => ⟨c, 0, rfl, hsz, HL.out⟩⟩, ?_, HQ5.out⟩
        rintro _ b o n' c' e
        injection e with e1
        injection e1 with e1
        injection e1 with e1
        omega
end Go.Proofs.Ytmcndiljldbkcaa
/- Layer 38: grabs deleted from a row. -/
namespace Go.Proofs.Ytmcndiljldbkcaa
open Go Go.RowKit
set_option linter.unusedSimpArgs false
set_option linter.unusedVariables false
set_option maxRecDepth 100000 in
set_option maxHeartbeats 16000000 in
theorem delete_l (B : Nat) (c1 c2 : Nat) (p : G → Bool) (gs : List G) (v : Value) (w : World) (hB : B ≤ w.heap.size) (hv : IsG w v gs) (ho : 0 < gs.length → OwnG w B v gs) (hl : gs.length ≤ 1000)
    (hF : ∀ W x, Below B w W → Calls Try.prog 37 #[gV x, .pointer (some ⟨c1, 0, none⟩), .pointer (some ⟨c2, 0, none⟩)] W fun e w' => e = .returned (.bool (p x)) ∧ Below W.heap.size W w') :
    Calls Try.prog 44 #[v, .func (.func 37) #[] #[.pointer (some ⟨c1, 0, none⟩), .pointer (some ⟨c2, 0, none⟩)]] w fun e w' => ∃ v', e = .returned v' ∧ IsG w' v' (leftL p gs) ∧ (0 < gs.length → FarG B v') ∧ Below B w w' := by
  have HV := Lib.hid hv
  have HO := Lib.hid ho
  have HF := Lib.hid hF
  have HB := hB
  clear hF hB ho
  obtain ⟨A, cap, rfl, _⟩ := hv
  obtain ⟨n, hn⟩ : ∃ n, gs.length = n := ⟨_, rfl⟩
  have hl1 := hl
  rw [hn] at hl HV HO ⊢
  have HN := Lib.hid hn
  clear hn
  go_enter Try.func44, Try.ntmps44
  go_wp2_with fail
  refine (index_l c1 c2 p gs _ w HV.out hl1 (fun W x h => HF.out W x (below_le h HB))).mono ?_
  rintro e w1 ⟨r, rfl, hr, hb⟩
  rcases hr with ⟨rfl, hno⟩ | ⟨k0, x0, rfl, hx0, hp0, hno⟩
  · have HR : Hid (IsG w1 (.slice A n cap) (leftL p gs)) := Lib.hid (by rw [left_all hno]; exact HV.out.below hb)
    clear hno
    go_wp2_with fail
    go_returns
    exact ⟨_, rfl, HR.out, fun h => own_far (HO.out h), below_le hb HB⟩
  · have hk0 : k0 < n := by have := (List.getElem?_eq_some_iff.1 hx0).1; have := HN.out; omega
    replace HO : Hid (OwnG w B (.slice A n cap) gs) := Lib.hid (HO.out (by omega))
    obtain ⟨c, rfl⟩ : ∃ c, A = some ⟨c, 0, none⟩ := by
      obtain ⟨g', cap', e⟩ := Joins.ownsRow_form HO.out (by rw [HN.out]; omega)
      injection e with e1 e2 e3
      exact ⟨_, e1⟩
    have hcl := HO.out.lt c rfl
    have hcap : n ≤ cap := by
      rcases HO.out.2 with ⟨e, _⟩ | ⟨g, cap', cur, e, _, _, h3, _⟩
      · injection e with e1; cases e1
      · injection e with e1 e2 e3
        have := HN.out
        omega
    have HO1 : Hid (w1.ownsRow B 35 9 (.slice (some ⟨c, 0, none⟩) n cap) n (cellsG gs)) := Lib.hid (by
      have h1 := HO.out
      unfold OwnG at h1
      rw [HN.out] at h1
      exact own_below h1 hb)
    obtain ⟨hd, hlen⟩ := DelAt.start HN.out HO1.out (Nat.lt_of_lt_of_le hcl.2 hb.size) hno hx0 hp0
    have HD0 := Lib.hid hd
    have HLEN := Lib.hid hlen
    have HQ1 := Lib.hid (below_le hb HB)
    have hcB : B ≤ c := hcl.1
    have hk1 : ((k0 : Int) == -1) = false := by simp <;> omega
    clear hd hlen hno hx0 hp0 hb hcl
    go_wp2_with fail
    go_loopw [5, 6] (fun a b wr => ∃ i k : Nat, i < k ∧ k ≤ n ∧ a = .int .i64 i ∧ b = .int .i64 k ∧ Hid (DelAt wr c n k p gs) ∧ Hid ((leftL p (gs.take k)).length = i) ∧ Hid (Below B w wr))
      (fun _ b _ => n - (intOf b).toNat)
    case atStart => exact ⟨k0, k0 + 1, by omega, by omega, rfl, by first | rfl | (go_num; done) | (simp; done), HD0, HLEN, HQ1⟩
    case round =>
      obtain ⟨i, k, hik, hk, rfl, rfl, hd, hlen, hq⟩ := hrel
      by_cases hlt : k < n
      · obtain ⟨x, hx⟩ : ∃ x, gs[k]? = some x := ⟨_, List.getElem?_eq_getElem (by have := HN.out; omega)⟩
        have HX := Lib.hid hx
        have hki : (k : Int) < (n : Int) := by omega
        have hlx := fun q u hu => hd.out.rest k x (Nat.le_refl _) hx q u hu
        have d0 := hlx 0 _ rfl
        rw [Nat.add_zero] at d0
        have d1 := hlx 1 _ rfl
        have d2 := hlx 2 _ rfl
        have d3 := hlx 3 _ rfl
        have d4 := hlx 4 _ rfl
        have d5 := hlx 5 _ rfl
        have d6 := hlx 6 _ rfl
        have d7 := hlx 7 _ rfl
        have d8 := hlx 8 _ rfl
        clear hlx hx
        go_wp2_with fail
        refine calls_world (fun W => Below wr.heap.size wr W ∧ Blk W wr.heap.size (gL x)) ⟨by (repeat' (first | with_reducible exact Below.refl _ _ | with_reducible assumption | with_reducible refine q_alloc ?_ _ | with_reducible refine q_drew ?_ | with_reducible refine q_drewN _ ?_ | with_reducible refine q_setCell ?_ ?_ _ | (left; simp; done) | (right; simp; done) | (right; dsimp only; omega) | (left; dsimp only; omega))), Blk.new rfl⟩ ?_
        intro W2 ⟨hq2, c2⟩
        have hd2 := hd.out.below hq2
        have hB2 : B ≤ wr.heap.size := Nat.le_trans hcB (Nat.le_of_lt hd.out.lt)
        have hqq := below_tr hq.out (below_le hq2 hB2)
        have hcw : c < wr.heap.size := hd.out.lt
        clear d0 d1 d2 d3 d4 d5 d6 d7 d8
        refine (HF.out W2 x hqq).mono ?_
        rintro e w3 ⟨rfl, hb3⟩
        have C3 := Lib.hid (c2.below hb3)
        have HD3 := Lib.hid (hd2.below hb3)
        have hsz2 : wr.heap.size ≤ W2.heap.size := hq2.size
        have HQ3 := Lib.hid (below_tr hqq (below_le hb3 (Nat.le_trans hB2 hsz2)))
        clear hqq hd2 c2 hb3 hq2 hd hq
        cases hp : p x with
        | true =>
          have HD4 := Lib.hid (HD3.out.skip HX.out hp)
          have HL4 : Hid ((leftL p (gs.take (k + 1))).length = i) := Lib.hid (by rw [left_take HX.out, hp]; simpa using hlen.out)
          clear hp
          go_wp2_with fail
          go_roundw
          case rel => exact ⟨i, k + 1, by omega, by omega, rfl, by go_num, HD4, HL4, HQ3⟩
          case measure => simp [intOf] <;> omega
        | false =>
          have HL4 : Hid ((leftL p (gs.take (k + 1))).length = i + 1) := Lib.hid (by rw [left_take HX.out, hp]; have := hlen.out; simp; omega)
          have HD4 := Lib.hid (HD3.out.put HN.out HX.out hp hlen.out)
          have HQ4 := Lib.hid (below_setCells' hcB (gL x) (i * 9) HQ3.out)
          have hin : (i : Int) < (n : Int) := by omega
          have y0 := C3.out.cell 0 rfl
          have y1 := C3.out.cell 1 rfl
          have y2 := C3.out.cell 2 rfl
          have y3 := C3.out.cell 3 rfl
          have y4 := C3.out.cell 4 rfl
          have y5 := C3.out.cell 5 rfl
          have y6 := C3.out.cell 6 rfl
          have y7 := C3.out.cell 7 rfl
          have y8 := C3.out.cell 8 rfl
          have HTH : Hid (w3.there c (i * 9) (gL x).toArray.size) := Lib.hid (by
            rw [List.size_toArray, gL_len]
            intro j hj
            have := HD3.out.there (i * 9 + j) (by omega)
            rwa [Nat.zero_add] at this)
          obtain ⟨w6, hw6⟩ : ∃ w6, w3.setCells c (i * 9) (gL x) = w6 := ⟨_, rfl⟩
          have HW6 : Hid (w3.setCells c (i * 9) (gL x).toArray.toList = w6) := Lib.hid hw6
          rw [hw6] at HD4 HQ4
          clear hw6 hp
          go_wp2_with (with_reducible refine at_store 35 ?_; refine wpList_store_mid rfl 35 _ _ rfl c _ (gL x).toArray rfl rfl HTH.out (info_size x) (one_cells x) ?_; rw [HW6.out])
          go_roundw
          case rel => exact ⟨i + 1, k + 1, by omega, by omega, by go_num, by go_num, HD4, HL4, HQ4⟩
          case measure => simp [intOf] <;> omega
      · obtain rfl : k = n := by omega
        have hm : (leftL p gs).length = i := by have := hlen.out; rw [← HN.out, List.take_length] at this; exact this
        have HTH : wr.there c (i * 9) ((k - i) * 9) := fun j hj => by
          have := hd.out.there (i * 9 + j) (by omega)
          rwa [Nat.zero_add] at this
        have hclr := fun ty => clear_grabs wr ty c (i * 9) (k - i) (cap - i) (by omega) HTH
        obtain ⟨vs, hvs⟩ : ∃ vs, (Builtin.zeroCells zeroG.cells (k - i)).toList = vs := ⟨_, rfl⟩
        rw [hvs] at hclr
        have HL : Hid (LayG (wr.setCells c (i * 9) vs) c 0 (leftL p gs)) := Lib.hid (hd.out.cleared HN.out hm vs)
        have HQ5 : Hid (Below B w (wr.setCells c (i * 9) vs)) := Lib.hid (below_setCells' hcB vs (i * 9) hq.out)
        have hsz : c < (wr.setCells c (i * 9) vs).heap.size := Nat.lt_of_lt_of_le hd.out.lt (below_setCells' (B := 0) (Nat.zero_le _) _ _ (Below.refl 0 wr)).size
        obtain ⟨w6, hw6⟩ : ∃ w6, wr.setCells c (i * 9) vs = w6 := ⟨_, rfl⟩
        rw [hw6] at hclr HL HQ5 hsz
        have hfrom := slice_from c k cap i hik hcap
        have hto := slice_to c k cap i (by omega) (by omega)
        have HM := Lib.hid hm
        clear hw6 hvs hm HTH hd hlen hq
        go_wp2_with fail
        go_returns
        refine ⟨.slice (some ⟨c, 0, none⟩) i cap, rfl, ⟨some ⟨c, 0, none⟩, cap, by rw [HM.out], fun _ => ⟨c, 0, rfl, hsz, HL.out⟩⟩, ?_, HQ5.out⟩
        rintro _ b o n' c' e
        injection e with e1
        injection e1 with e1
        injection e1 with e1
        omega
end Go.Proofs.Ytmcndiljldbkcaa
