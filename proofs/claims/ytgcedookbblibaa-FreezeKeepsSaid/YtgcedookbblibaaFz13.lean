/- Layer 39: FreezeKeeps' walk. -/
import Derived.Test.YtgcedookbblibaaFz10
import Derived.Test.YtgcedookbblibaaRow3
namespace Go.Proofs.Ytgcedookbblibaa
open Go Go.RowKit
set_option linter.unusedSimpArgs false
set_option linter.unusedVariables false
theorem ozero_3a : ∀ w, (zeroValue 37).run Try.prog w = .ok (.agg #[.int .u8 0, i6 0, uw 0, .bool false, i6 0, .bool false, .bool false, i6 0, uw 0, .bool false, i6 0, i6 0, i6 0, i6 0, uw 0, i6 0, i6 0]) w := (zero_of_info (P := Try.prog) (t := 37) (v := .agg #[.int .u8 0, i6 0, uw 0, .bool false, i6 0, .bool false, .bool false, i6 0, uw 0, .bool false, i6 0, i6 0, i6 0, i6 0, uw 0, i6 0, i6 0]) (n := 17) (by kernel_rfl)).1
theorem oinfo_3a : (Try.prog.info? 37).map (·.size) = some 17 := by kernel_rfl
theorem ob_3a {a0 : World} {ops : Array Oper} {rest : List Oper} {d : Option Tmp} {t' : TypeId} {p : String} {af : Array Edge} {a : Act} {w : World} {Q : Exit → Act → World → Prop} {L : List (Nat × List Value)} {R : List (Nat × Nat × List Value)} {x : Operand} (HO : Own a0 w L R) (cs : List Value) (hx : a.eval x = .agg cs.toArray) (h : ∀ (n : Nat) (W : World), Own a0 W (L ++ [(n, cs)]) R → wpList Try.prog ops Q rest (a.put d (.pointer (some ⟨n, 0, none⟩))) W) : wpList Try.prog ops Q ({ dst := d, op := .box 37 x, type := t', pos := p, after := af, guard := none } :: rest) a w := ownBox rfl 37 x rfl HO _ hx cs rfl h
theorem oa_3a {a0 : World} {ops : Array Oper} {rest : List Oper} {d : Option Tmp} {t' : TypeId} {p : String} {af : Array Edge} {a : Act} {w : World} {Q : Exit → Act → World → Prop} {L : List (Nat × List Value)} {R : List (Nat × Nat × List Value)} (HO : Own a0 w L R) (h : ∀ (n : Nat) (W : World), Own a0 W (L ++ [(n, [.int .u8 0, i6 0, uw 0, .bool false, i6 0, .bool false, .bool false, i6 0, uw 0, .bool false, i6 0, i6 0, i6 0, i6 0, uw 0, i6 0, i6 0])]) R → wpList Try.prog ops Q rest (a.put d (.pointer (some ⟨n, 0, none⟩))) W) : wpList Try.prog ops Q ({ dst := d, op := .alloc 37, type := t', pos := p, after := af, guard := none } :: rest) a w := ownAlloc rfl 37 rfl HO _ ozero_3a _ rfl h
theorem ol_3a {a0 : World} {ops : Array Oper} {rest : List Oper} {d : Option Tmp} {t' : TypeId} {p : String} {af : Array Edge} {a : Act} {w : World} {Q : Exit → Act → World → Prop} {L : List (Nat × List Value)} {R : List (Nat × Nat × List Value)} {x : Operand} {g : Option (Nat × Bool)} (HO : Own a0 w L R) (hw : Region.wanted { dst := d, op := .load 37 x, type := t', pos := p, after := af, guard := g } (yielded ops a.tmps) = true) (b : Nat) (vs : List Value) (hx : a.eval x = .pointer (some ⟨b, 0, none⟩)) (hm : Has L b vs) (hn : vs.length = 17) (h : wpList Try.prog ops Q rest (a.put d (.agg vs.toArray)) w) : wpList Try.prog ops Q ({ dst := d, op := .load 37 x, type := t', pos := p, after := af, guard := g } :: rest) a w := ownLoad hw 37 x rfl HO 17 _ Try.underlying37 rfl oinfo_3a b vs hx hm.mem hn h
theorem op_3a {a0 : World} {ops : Array Oper} {rest : List Oper} {d : Option Tmp} {t' : TypeId} {p : String} {af : Array Edge} {a : Act} {w : World} {Q : Exit → Act → World → Prop} {L : List (Nat × List Value)} {R : List (Nat × Nat × List Value)} {x : Operand} {g : Option (Nat × Bool)} (HO : Own a0 w L R) (hw : Region.wanted { dst := d, op := .load 37 x, type := t', pos := p, after := af, guard := g } (yielded ops a.tmps) = true) (b o : Nat) (vs cs : List Value) (hx : a.eval x = .pointer (some ⟨b, o, none⟩)) (hm : Has L b vs) (hp : Part vs o 17 cs) (h : wpList Try.prog ops Q rest (a.put d (.agg cs.toArray)) w) : wpList Try.prog ops Q ({ dst := d, op := .load 37 x, type := t', pos := p, after := af, guard := g } :: rest) a w := ownPart hw 37 x rfl HO 17 _ Try.underlying37 rfl oinfo_3a b o vs cs hx hm.mem hp h
theorem os_3a {a0 : World} {ops : Array Oper} {rest : List Oper} {d : Option Tmp} {t' : TypeId} {p : String} {af : Array Edge} {a : Act} {w : World} {Q : Exit → Act → World → Prop} {L : List (Nat × List Value)} {R : List (Nat × Nat × List Value)} {x : Operand} {y : Operand} {L' : List (Nat × List Value)} (HO : Own a0 w L R) (us : List Value) (hy : a.eval y = .agg us.toArray) (hl : us.length = 17) (b o : Nat) (hx : a.eval x = .pointer (some ⟨b, o, none⟩)) (hs : Sto L b o us L') (h1 : us.all (·.oneCell') = true) (h : ∀ W : World, Own a0 W L' R → wpList Try.prog ops Q rest (a.put d undef) W) : wpList Try.prog ops Q ({ dst := d, op := .store 37 x y, type := t', pos := p, after := af, guard := none } :: rest) a w := ownSto rfl 37 x y rfl HO 17 oinfo_3a _ us hy rfl hl b o hx hs h1 h
theorem ozeros_3a : ∀ w, (zeroValue 5).run Try.prog w = .ok (.int .u8 0) w := (zero_of_info (P := Try.prog) (t := 5) (v := .int .u8 0) (n := 1) (by kernel_rfl)).1
theorem oinfos_3a : (Try.prog.info? 5).map (·.size) = some 1 := by kernel_rfl
theorem sb_3a {a0 : World} {ops : Array Oper} {rest : List Oper} {d : Option Tmp} {t' : TypeId} {p : String} {af : Array Edge} {a : Act} {w : World} {Q : Exit → Act → World → Prop} {L : List (Nat × List Value)} {R : List (Nat × Nat × List Value)} {x : Operand} (HO : Own a0 w L R) (v : Value) (hx : a.eval x = v) (hc : v.cells = #[v]) (h : ∀ (n : Nat) (W : World), Own a0 W (L ++ [(n, [v])]) R → wpList Try.prog ops Q rest (a.put d (.pointer (some ⟨n, 0, none⟩))) W) : wpList Try.prog ops Q ({ dst := d, op := .box 5 x, type := t', pos := p, after := af, guard := none } :: rest) a w := ownBox rfl 5 x rfl HO v hx [v] hc h
theorem sa_3a {a0 : World} {ops : Array Oper} {rest : List Oper} {d : Option Tmp} {t' : TypeId} {p : String} {af : Array Edge} {a : Act} {w : World} {Q : Exit → Act → World → Prop} {L : List (Nat × List Value)} {R : List (Nat × Nat × List Value)} (HO : Own a0 w L R) (h : ∀ (n : Nat) (W : World), Own a0 W (L ++ [(n, [.int .u8 0])]) R → wpList Try.prog ops Q rest (a.put d (.pointer (some ⟨n, 0, none⟩))) W) : wpList Try.prog ops Q ({ dst := d, op := .alloc 5, type := t', pos := p, after := af, guard := none } :: rest) a w := ownAlloc rfl 5 rfl HO _ ozeros_3a _ rfl h
theorem sl_3a {a0 : World} {ops : Array Oper} {rest : List Oper} {d : Option Tmp} {t' : TypeId} {p : String} {af : Array Edge} {a : Act} {w : World} {Q : Exit → Act → World → Prop} {L : List (Nat × List Value)} {R : List (Nat × Nat × List Value)} {x : Operand} {g : Option (Nat × Bool)} (HO : Own a0 w L R) (hw : Region.wanted { dst := d, op := .load 5 x, type := t', pos := p, after := af, guard := g } (yielded ops a.tmps) = true) (b o : Nat) (vs : List Value) (v : Value) (hx : a.eval x = .pointer (some ⟨b, o, none⟩)) (hm : Has L b vs) (hv : vs[o]? = some v) (h : wpList Try.prog ops Q rest (a.put d v) w) : wpList Try.prog ops Q ({ dst := d, op := .load 5 x, type := t', pos := p, after := af, guard := g } :: rest) a w := ownLoad1 hw 5 x rfl HO _ Try.underlying5 rfl b o vs v hx hm.mem hv h
theorem st_3a {a0 : World} {ops : Array Oper} {rest : List Oper} {d : Option Tmp} {t' : TypeId} {p : String} {af : Array Edge} {a : Act} {w : World} {Q : Exit → Act → World → Prop} {L : List (Nat × List Value)} {R : List (Nat × Nat × List Value)} {x : Operand} {y : Operand} {L' : List (Nat × List Value)} (HO : Own a0 w L R) (v : Value) (hy : a.eval y = v) (hc : v.cells = #[v]) (b o : Nat) (hx : a.eval x = .pointer (some ⟨b, o, none⟩)) (hs : Sto L b o [v] L') (h1 : [v].all (·.oneCell') = true) (h : ∀ W : World, Own a0 W L' R → wpList Try.prog ops Q rest (a.put d undef) W) : wpList Try.prog ops Q ({ dst := d, op := .store 5 x y, type := t', pos := p, after := af, guard := none } :: rest) a w := ownSto rfl 5 x y rfl HO 1 oinfos_3a v [v] hy hc rfl b o hx hs h1 h

/-- What waits bears its numbers, from one on. -/
def FedL (ws : List In) (come : Nat) : Prop := ∀ (i : Nat) (x : In), ws[i]? = some x → x.n = ((come + i : Nat) : Int)
theorem fedL_nil (c : Nat) : FedL [] c := fun i x h => by simp at h
theorem fedL_tail {ws : List In} {c : Nat} (h : FedL ws c) : FedL (ws.drop 1) (c + 1) := fun i x hx => by
  rw [List.getElem?_drop] at hx
  rw [h _ _ hx]
  omega
theorem fedL_snoc {ws : List In} {c m : Nat} (h : FedL ws c) (hl : ws.length = m) {x : In} (hx : x.n = (c : Int) + (m : Int)) : FedL (ws ++ [x]) c := fun i y hy => by
  rcases Nat.lt_or_ge i ws.length with h1 | h1
  · rw [List.getElem?_append_left h1] at hy
    exact h i y hy
  · rw [List.getElem?_append_right h1] at hy
    rcases Nat.eq_zero_or_pos (i - ws.length) with h2 | h2
    · rw [h2] at hy
      simp at hy
      subst hy
      rw [hx]
      omega
    · rw [List.getElem?_eq_none (by simp; omega)] at hy
      cases hy
set_option maxRecDepth 100000 in
set_option maxHeartbeats 16000000 in
theorem lkeeps39 (XA : Option Addr) (N xc : Nat) (xs : List Ac) (xb xo : Nat) (w : World) (hn : xs.length = N) (hv : RowV (.slice XA N xc) N xb xo) (hr : cellsR acL xs ≠ [] → xb < w.heap.size ∧ w.rangeAt xb xo (cellsR acL xs)) (hd : ∀ x ∈ xs, 0 ≤ x.d ∧ x.d ≤ 255) :
    Calls Try.prog 4 #[.slice XA N xc] w fun e w' => e = .returned (.bool true) ∧ Below w.heap.size w w' := by
  obtain ⟨_, _, hsl, hnc, hcm, hXA⟩ := hv
  simp only [Value.slice.injEq] at hsl
  obtain ⟨rfl, -, rfl⟩ := hsl
  have HN := Lib.hid hn
  have HR0 := Lib.hid hr
  have HXA := Lib.hid hXA
  have HXC := Lib.hid (And.intro hnc hcm)
  have HD := Lib.hid hd
  clear hn hr hXA hnc hcm hd
  go_enter Try.func4, Try.ntmps4
  have HO := (Own.nil w).pushArg xb xo (cellsR acL xs) HR0.out
  by_cases hgt : 60 < N
  · have hgi : (60 : Int) < (N : Int) := by omega
    clear hgt
    go_wp2_with (first
      | (with_reducible ((first | (refine own_at_box 32 ?_; refine ob_0 HO _ rfl ?_) | (refine own_at_alloc 32 ?_; refine oa_0 HO ?_) | (refine own_at_box 27 ?_; refine ob_1 HO _ rfl ?_) | (refine own_at_alloc 27 ?_; refine oa_1 HO ?_) | (refine own_at_box 29 ?_; refine ob_2 HO _ rfl ?_) | (refine own_at_alloc 29 ?_; refine oa_2 HO ?_) | (refine own_at_box 37 ?_; refine ob_3a HO _ rfl ?_) | (refine own_at_alloc 37 ?_; refine oa_3a HO ?_) | (refine own_at_box 4 ?_; refine sb_0 HO (.bool _) rfl rfl ?_) | (refine own_at_alloc 4 ?_; refine sa_0 HO ?_) | (refine own_at_box 3 ?_; refine sb_1 HO (.int .i64 _) rfl rfl ?_) | (refine own_at_alloc 3 ?_; refine sa_1 HO ?_) | (refine own_at_box 30 ?_; refine sb_2 HO (.slice _ _ _) rfl rfl ?_) | (refine own_at_alloc 30 ?_; refine sa_2 HO ?_) | (refine own_at_box 5 ?_; refine sb_3a HO (.int .u8 _) rfl rfl ?_) | (refine own_at_alloc 5 ?_; refine sa_3a HO ?_)); intro nB WB HOn; (try simp only [List.cons_append, List.nil_append] at HOn); clear HO; have HO := HOn; clear HOn))
      | (with_reducible (first | (refine own_at_load 32 ?_; refine op_0 HO rfl _ _ _ _ rfl (by repeat first | apply Has.head | apply Has.tail) (by repeat first | apply Part.done | apply Part.take | apply Part.skip) ?_) | (refine own_at_load 27 ?_; refine op_1 HO rfl _ _ _ _ rfl (by repeat first | apply Has.head | apply Has.tail) (by repeat first | apply Part.done | apply Part.take | apply Part.skip) ?_) | (refine own_at_load 29 ?_; refine op_2 HO rfl _ _ _ _ rfl (by repeat first | apply Has.head | apply Has.tail) (by repeat first | apply Part.done | apply Part.take | apply Part.skip) ?_) | (refine own_at_load 37 ?_; refine op_3a HO rfl _ _ _ _ rfl (by repeat first | apply Has.head | apply Has.tail) (by repeat first | apply Part.done | apply Part.take | apply Part.skip) ?_) | (refine own_at_load 4 ?_; refine sl_0 HO rfl _ _ _ _ rfl (by repeat first | apply Has.head | apply Has.tail) rfl ?_) | (refine own_at_load 3 ?_; refine sl_1 HO rfl _ _ _ _ rfl (by repeat first | apply Has.head | apply Has.tail) rfl ?_) | (refine own_at_load 30 ?_; refine sl_2 HO rfl _ _ _ _ rfl (by repeat first | apply Has.head | apply Has.tail) rfl ?_) | (refine own_at_load 5 ?_; refine sl_3a HO rfl _ _ _ _ rfl (by repeat first | apply Has.head | apply Has.tail) rfl ?_)))
      | (with_reducible ((first | (refine own_at_store 32 ?_; refine os_0 HO _ rfl rfl _ _ rfl (by repeat first | apply Sto.head | apply Sto.tail | apply Patch.put | apply Patch.skip | apply Patch.done) rfl ?_) | (refine own_at_store 27 ?_; refine os_1 HO _ rfl rfl _ _ rfl (by repeat first | apply Sto.head | apply Sto.tail | apply Patch.put | apply Patch.skip | apply Patch.done) rfl ?_) | (refine own_at_store 29 ?_; refine os_2 HO _ rfl rfl _ _ rfl (by repeat first | apply Sto.head | apply Sto.tail | apply Patch.put | apply Patch.skip | apply Patch.done) rfl ?_) | (refine own_at_store 37 ?_; refine os_3a HO _ rfl rfl _ _ rfl (by repeat first | apply Sto.head | apply Sto.tail | apply Patch.put | apply Patch.skip | apply Patch.done) rfl ?_) | (refine own_at_store 4 ?_; refine st_0 HO (.bool _) rfl rfl _ _ rfl (by repeat first | apply Sto.head | apply Sto.tail | apply Patch.put | apply Patch.skip | apply Patch.done) rfl ?_) | (refine own_at_store 3 ?_; refine st_1 HO (.int .i64 _) rfl rfl _ _ rfl (by repeat first | apply Sto.head | apply Sto.tail | apply Patch.put | apply Patch.skip | apply Patch.done) rfl ?_) | (refine own_at_store 30 ?_; refine st_2 HO (.slice _ _ _) rfl rfl _ _ rfl (by repeat first | apply Sto.head | apply Sto.tail | apply Patch.put | apply Patch.skip | apply Patch.done) rfl ?_) | (refine own_at_store 5 ?_; refine st_3a HO (.int .u8 _) rfl rfl _ _ rfl (by repeat first | apply Sto.head | apply Sto.tail | apply Patch.put | apply Patch.skip | apply Patch.done) rfl ?_)); intro WB HOn; clear HO; have HO := HOn; clear HOn))
      | (go_at_call 8; refine (awake39 _).mono ?_; rintro e wc ⟨rfl, hb⟩; have HOn := HO.below hb; clear HO hb; have HO := HOn; clear HOn))
    go_returns
    exact ⟨by first | rfl | (simp; done), HO.q⟩
  · have hgi : ¬ (60 : Int) < (N : Int) := by omega
    go_wp2_with (first
      | (with_reducible ((first | (refine own_at_box 32 ?_; refine ob_0 HO _ rfl ?_) | (refine own_at_alloc 32 ?_; refine oa_0 HO ?_) | (refine own_at_box 27 ?_; refine ob_1 HO _ rfl ?_) | (refine own_at_alloc 27 ?_; refine oa_1 HO ?_) | (refine own_at_box 29 ?_; refine ob_2 HO _ rfl ?_) | (refine own_at_alloc 29 ?_; refine oa_2 HO ?_) | (refine own_at_box 37 ?_; refine ob_3a HO _ rfl ?_) | (refine own_at_alloc 37 ?_; refine oa_3a HO ?_) | (refine own_at_box 4 ?_; refine sb_0 HO (.bool _) rfl rfl ?_) | (refine own_at_alloc 4 ?_; refine sa_0 HO ?_) | (refine own_at_box 3 ?_; refine sb_1 HO (.int .i64 _) rfl rfl ?_) | (refine own_at_alloc 3 ?_; refine sa_1 HO ?_) | (refine own_at_box 30 ?_; refine sb_2 HO (.slice _ _ _) rfl rfl ?_) | (refine own_at_alloc 30 ?_; refine sa_2 HO ?_) | (refine own_at_box 5 ?_; refine sb_3a HO (.int .u8 _) rfl rfl ?_) | (refine own_at_alloc 5 ?_; refine sa_3a HO ?_)); intro nB WB HOn; (try simp only [List.cons_append, List.nil_append] at HOn); clear HO; have HO := HOn; clear HOn))
      | (with_reducible (first | (refine own_at_load 32 ?_; refine op_0 HO rfl _ _ _ _ rfl (by repeat first | apply Has.head | apply Has.tail) (by repeat first | apply Part.done | apply Part.take | apply Part.skip) ?_) | (refine own_at_load 27 ?_; refine op_1 HO rfl _ _ _ _ rfl (by repeat first | apply Has.head | apply Has.tail) (by repeat first | apply Part.done | apply Part.take | apply Part.skip) ?_) | (refine own_at_load 29 ?_; refine op_2 HO rfl _ _ _ _ rfl (by repeat first | apply Has.head | apply Has.tail) (by repeat first | apply Part.done | apply Part.take | apply Part.skip) ?_) | (refine own_at_load 37 ?_; refine op_3a HO rfl _ _ _ _ rfl (by repeat first | apply Has.head | apply Has.tail) (by repeat first | apply Part.done | apply Part.take | apply Part.skip) ?_) | (refine own_at_load 4 ?_; refine sl_0 HO rfl _ _ _ _ rfl (by repeat first | apply Has.head | apply Has.tail) rfl ?_) | (refine own_at_load 3 ?_; refine sl_1 HO rfl _ _ _ _ rfl (by repeat first | apply Has.head | apply Has.tail) rfl ?_) | (refine own_at_load 30 ?_; refine sl_2 HO rfl _ _ _ _ rfl (by repeat first | apply Has.head | apply Has.tail) rfl ?_) | (refine own_at_load 5 ?_; refine sl_3a HO rfl _ _ _ _ rfl (by repeat first | apply Has.head | apply Has.tail) rfl ?_)))
      | (with_reducible ((first | (refine own_at_store 32 ?_; refine os_0 HO _ rfl rfl _ _ rfl (by repeat first | apply Sto.head | apply Sto.tail | apply Patch.put | apply Patch.skip | apply Patch.done) rfl ?_) | (refine own_at_store 27 ?_; refine os_1 HO _ rfl rfl _ _ rfl (by repeat first | apply Sto.head | apply Sto.tail | apply Patch.put | apply Patch.skip | apply Patch.done) rfl ?_) | (refine own_at_store 29 ?_; refine os_2 HO _ rfl rfl _ _ rfl (by repeat first | apply Sto.head | apply Sto.tail | apply Patch.put | apply Patch.skip | apply Patch.done) rfl ?_) | (refine own_at_store 37 ?_; refine os_3a HO _ rfl rfl _ _ rfl (by repeat first | apply Sto.head | apply Sto.tail | apply Patch.put | apply Patch.skip | apply Patch.done) rfl ?_) | (refine own_at_store 4 ?_; refine st_0 HO (.bool _) rfl rfl _ _ rfl (by repeat first | apply Sto.head | apply Sto.tail | apply Patch.put | apply Patch.skip | apply Patch.done) rfl ?_) | (refine own_at_store 3 ?_; refine st_1 HO (.int .i64 _) rfl rfl _ _ rfl (by repeat first | apply Sto.head | apply Sto.tail | apply Patch.put | apply Patch.skip | apply Patch.done) rfl ?_) | (refine own_at_store 30 ?_; refine st_2 HO (.slice _ _ _) rfl rfl _ _ rfl (by repeat first | apply Sto.head | apply Sto.tail | apply Patch.put | apply Patch.skip | apply Patch.done) rfl ?_) | (refine own_at_store 5 ?_; refine st_3a HO (.int .u8 _) rfl rfl _ _ rfl (by repeat first | apply Sto.head | apply Sto.tail | apply Patch.put | apply Patch.skip | apply Patch.done) rfl ?_)); intro WB HOn; clear HO; have HO := HOn; clear HOn)))
    obtain ⟨n0, hn0⟩ := HO.names1
    subst hn0
    go_loopw [4, 5, 27] (fun fd cm i wr => ∃ (q come m c b o : Nat) (A : Option Addr) (d : Dv) (ws : List In), i = .int .i64 q ∧ cm = .int .i64 come ∧ fd = .int .i64 ((come : Int) + (m : Int)) ∧ q ≤ N ∧ come + m ≤ q ∧ Hid (ws.length = m) ∧ Hid (m ≤ c ∧ c ≤ maxLen) ∧ Hid (0 < m → A = some ⟨b, o, none⟩) ∧ Hid (FedL ws come) ∧ Hid (Own w wr [(n0, dvL d (.slice A m c))] [(b, o, cellsR inL ws), (xb, xo, cellsR acL xs)])) (fun _ _ i _ => N - (intOf i).toNat)
    case atStart => exact ⟨0, 0, 0, 0, 0, 0, none, zDv, [], rfl, rfl, rfl, by omega, by omega, Lib.hid rfl, Lib.hid ⟨by omega, by decide⟩, Lib.hid (fun h => by omega), Lib.hid (fedL_nil 0), Lib.hid (HO.push 0 0 [] (fun h => absurd rfl h))⟩
    case round =>
      clear HO
      obtain ⟨q, come, m, c, b, o, A, d, ws, rfl, rfl, rfl, hq, hcq, HW, HC, HA, HF, HOH⟩ := hrel
      obtain ⟨⟨d0, d1, d2, d3, d4, d5, d6, d7⟩, d8, d9, d10, ⟨d11, d12, d13, d14, d15, d16⟩, d17⟩ := d
      have HO := HOH.out
      clear HOH
      dsimp only [dvL] at HO
      by_cases hlt : q < N
      · have hqi : (q : Int) < N := by omega
        obtain ⟨x, hx⟩ : ∃ x, xs[q]? = some x := ⟨_, List.getElem?_eq_getElem (by rw [HN.out]; exact hlt)⟩
        obtain rfl : XA = some ⟨xb, xo, none⟩ := HXA.out (by omega)
        have hdx := HD.out x (List.mem_of_getElem? hx)
        obtain ⟨e0, ⟨y0, y1, y2, y3, y4, y5, y6, y7⟩, y8, ⟨z0, z1, z2, z3, z4, z5⟩, y9⟩ := x
        dsimp only at hdx
        have HX := Lib.hid hx
        have h8 : e0.tmod 8 = 0 ∨ e0.tmod 8 = 1 ∨ e0.tmod 8 = 2 ∨ e0.tmod 8 = 3 ∨ e0.tmod 8 = 4 ∨ e0.tmod 8 = 5 ∨ e0.tmod 8 = 6 ∨ e0.tmod 8 = 7 := by rw [Int.tmod_eq_emod_of_nonneg hdx.1]; omega
        clear hx hdx
        rcases h8 with h8 | h8 | h8 | h8 | h8 | h8 | h8 | h8
        · have hr8 : e0.tmod 8 = 0 := h8
          clear h8
          as_aux_lemma =>
            go_wp2_with (first
                  | (with_reducible ((first | (refine own_at_box 32 ?_; refine ob_0 HO _ rfl ?_) | (refine own_at_alloc 32 ?_; refine oa_0 HO ?_) | (refine own_at_box 27 ?_; refine ob_1 HO _ rfl ?_) | (refine own_at_alloc 27 ?_; refine oa_1 HO ?_) | (refine own_at_box 29 ?_; refine ob_2 HO _ rfl ?_) | (refine own_at_alloc 29 ?_; refine oa_2 HO ?_) | (refine own_at_box 37 ?_; refine ob_3a HO _ rfl ?_) | (refine own_at_alloc 37 ?_; refine oa_3a HO ?_) | (refine own_at_box 4 ?_; refine sb_0 HO (.bool _) rfl rfl ?_) | (refine own_at_alloc 4 ?_; refine sa_0 HO ?_) | (refine own_at_box 3 ?_; refine sb_1 HO (.int .i64 _) rfl rfl ?_) | (refine own_at_alloc 3 ?_; refine sa_1 HO ?_) | (refine own_at_box 30 ?_; refine sb_2 HO (.slice _ _ _) rfl rfl ?_) | (refine own_at_alloc 30 ?_; refine sa_2 HO ?_) | (refine own_at_box 5 ?_; refine sb_3a HO (.int .u8 _) rfl rfl ?_) | (refine own_at_alloc 5 ?_; refine sa_3a HO ?_)); intro nB WB HOn; (try simp only [List.cons_append, List.nil_append] at HOn); clear HO; have HO := HOn; clear HOn))
                  | (with_reducible (first | (refine own_at_load 32 ?_; refine op_0 HO rfl _ _ _ _ rfl (by repeat first | apply Has.head | apply Has.tail) (by repeat first | apply Part.done | apply Part.take | apply Part.skip) ?_) | (refine own_at_load 27 ?_; refine op_1 HO rfl _ _ _ _ rfl (by repeat first | apply Has.head | apply Has.tail) (by repeat first | apply Part.done | apply Part.take | apply Part.skip) ?_) | (refine own_at_load 29 ?_; refine op_2 HO rfl _ _ _ _ rfl (by repeat first | apply Has.head | apply Has.tail) (by repeat first | apply Part.done | apply Part.take | apply Part.skip) ?_) | (refine own_at_load 37 ?_; refine op_3a HO rfl _ _ _ _ rfl (by repeat first | apply Has.head | apply Has.tail) (by repeat first | apply Part.done | apply Part.take | apply Part.skip) ?_) | (refine own_at_load 4 ?_; refine sl_0 HO rfl _ _ _ _ rfl (by repeat first | apply Has.head | apply Has.tail) rfl ?_) | (refine own_at_load 3 ?_; refine sl_1 HO rfl _ _ _ _ rfl (by repeat first | apply Has.head | apply Has.tail) rfl ?_) | (refine own_at_load 30 ?_; refine sl_2 HO rfl _ _ _ _ rfl (by repeat first | apply Has.head | apply Has.tail) rfl ?_) | (refine own_at_load 5 ?_; refine sl_3a HO rfl _ _ _ _ rfl (by repeat first | apply Has.head | apply Has.tail) rfl ?_)))
                  | (with_reducible ((first | (refine own_at_store 32 ?_; refine os_0 HO _ rfl rfl _ _ rfl (by repeat first | apply Sto.head | apply Sto.tail | apply Patch.put | apply Patch.skip | apply Patch.done) rfl ?_) | (refine own_at_store 27 ?_; refine os_1 HO _ rfl rfl _ _ rfl (by repeat first | apply Sto.head | apply Sto.tail | apply Patch.put | apply Patch.skip | apply Patch.done) rfl ?_) | (refine own_at_store 29 ?_; refine os_2 HO _ rfl rfl _ _ rfl (by repeat first | apply Sto.head | apply Sto.tail | apply Patch.put | apply Patch.skip | apply Patch.done) rfl ?_) | (refine own_at_store 37 ?_; refine os_3a HO _ rfl rfl _ _ rfl (by repeat first | apply Sto.head | apply Sto.tail | apply Patch.put | apply Patch.skip | apply Patch.done) rfl ?_) | (refine own_at_store 4 ?_; refine st_0 HO (.bool _) rfl rfl _ _ rfl (by repeat first | apply Sto.head | apply Sto.tail | apply Patch.put | apply Patch.skip | apply Patch.done) rfl ?_) | (refine own_at_store 3 ?_; refine st_1 HO (.int .i64 _) rfl rfl _ _ rfl (by repeat first | apply Sto.head | apply Sto.tail | apply Patch.put | apply Patch.skip | apply Patch.done) rfl ?_) | (refine own_at_store 30 ?_; refine st_2 HO (.slice _ _ _) rfl rfl _ _ rfl (by repeat first | apply Sto.head | apply Sto.tail | apply Patch.put | apply Patch.skip | apply Patch.done) rfl ?_) | (refine own_at_store 5 ?_; refine st_3a HO (.int .u8 _) rfl rfl _ _ rfl (by repeat first | apply Sto.head | apply Sto.tail | apply Patch.put | apply Patch.skip | apply Patch.done) rfl ?_)); intro WB HOn; clear HO; have HO := HOn; clear HOn))
                  | (with_reducible refine own_at_load 37 ?_; refine wpList_own_elem rfl 37 _ rfl HO _ Try.underlying37 rfl oinfo_3a 1 _ _ xs rfl acL_len (by decide) q _ HX.out rfl _ rfl ?_)
                  | (go_at_call 14; refine (frozen_f _ _ _ _ _ _ _ _ _ _ _ _ _ _ _ _ _ _ _ _ _ _).mono ?_; rintro e wc ⟨rfl, hb⟩; have HOn := HO.below hb; clear HO hb; have HO := HOn; clear HOn)
                  | (go_at_call 15; refine (begin_f _ _ _ _ _ _ _ _ _ _ _ _ _ _ _ _ _ _ _ _ _ _ _ _ _ _ _ _ _ _ _).mono ?_; rintro e wc ⟨rfl, hb⟩; have HOn := HO.below hb; clear HO hb; have HO := HOn; clear HOn))
            refine (waiting_at _ _ _ _ _ _ _ _ _ _ _ _ _ _ _ _ _ _ A m c ws b o _ (HW).out (HC).out.1 (HC).out.2 (HA).out (fun hne => ⟨(HO.rng 0 _ _ _ rfl hne).1, (HO.rng 0 _ _ _ rfl hne).2.1⟩) (by omega)).mono ?_
            rintro e wc ⟨v9, rfl, ho9, hb⟩
            obtain ⟨g9, ⟨A9, c9, rfl, hn9, hm9, hA9⟩, hr9⟩ := own_row ho9 (by decide)
            have HOn := HO.pushNew hb g9 0 _ hr9
            clear HO hb ho9 hr9
            have HO := HOn
            clear HOn
            have hsub : (come : Int) + (m : Int) - (come : Int) = (m : Int) := by omega
            by_cases hm0 : 0 < m
            · obtain rfl : A9 = some ⟨g9, 0, none⟩ := hA9 hm0
              obtain ⟨x, hx⟩ : ∃ x, (ws)[0]? = some x := ⟨_, List.getElem?_eq_getElem (by rw [(HW).out]; exact hm0)⟩
              have hxn := (HF).out 0 x hx
              obtain ⟨v0, v1, v2, v3, v4, v5⟩ := x
              have cw := HO.elemCell inL_len (by decide) 0 _ _ (ws) rfl hx 5 rfl
              dsimp only at cw hxn
              simp only [Nat.zero_mul, Nat.add_zero, Nat.zero_add] at cw hxn
              subst hxn
              have hmi : (0 : Int) < ((m : Nat) : Int) := by omega
              have hmn : 0 < m := hm0
              clear hx hA9
              go_wp2_with fail
              go_roundw
              case rel => exact ⟨q + 1, come, m, c, b, o, A, ⟨⟨y0, y1, y2, y3, y4, y5, y6, y7⟩, true, y8, false, ⟨0, 0, 0, 0, 0, 0⟩, false⟩, ws, by go_num, rfl, rfl, by omega, by omega, HW, HC, HA, HF, Lib.hid ((HO.tailR).takeL 1)⟩
              case measure => simp [intOf] <;> omega
            · have hmi : ¬ (0 : Int) < ((m : Nat) : Int) := by omega
              clear hA9
              go_wp2_with fail
              go_roundw
              case rel => exact ⟨q + 1, come, m, c, b, o, A, ⟨⟨y0, y1, y2, y3, y4, y5, y6, y7⟩, true, y8, false, ⟨0, 0, 0, 0, 0, 0⟩, false⟩, ws, by go_num, rfl, rfl, by omega, by omega, HW, HC, HA, HF, Lib.hid ((HO.tailR).takeL 1)⟩
              case measure => simp [intOf] <;> omega
        · have hr8 : e0.tmod 8 = 1 := h8
          clear h8
          as_aux_lemma =>
            go_wp2_with (first
                  | (with_reducible ((first | (refine own_at_box 32 ?_; refine ob_0 HO _ rfl ?_) | (refine own_at_alloc 32 ?_; refine oa_0 HO ?_) | (refine own_at_box 27 ?_; refine ob_1 HO _ rfl ?_) | (refine own_at_alloc 27 ?_; refine oa_1 HO ?_) | (refine own_at_box 29 ?_; refine ob_2 HO _ rfl ?_) | (refine own_at_alloc 29 ?_; refine oa_2 HO ?_) | (refine own_at_box 37 ?_; refine ob_3a HO _ rfl ?_) | (refine own_at_alloc 37 ?_; refine oa_3a HO ?_) | (refine own_at_box 4 ?_; refine sb_0 HO (.bool _) rfl rfl ?_) | (refine own_at_alloc 4 ?_; refine sa_0 HO ?_) | (refine own_at_box 3 ?_; refine sb_1 HO (.int .i64 _) rfl rfl ?_) | (refine own_at_alloc 3 ?_; refine sa_1 HO ?_) | (refine own_at_box 30 ?_; refine sb_2 HO (.slice _ _ _) rfl rfl ?_) | (refine own_at_alloc 30 ?_; refine sa_2 HO ?_) | (refine own_at_box 5 ?_; refine sb_3a HO (.int .u8 _) rfl rfl ?_) | (refine own_at_alloc 5 ?_; refine sa_3a HO ?_)); intro nB WB HOn; (try simp only [List.cons_append, List.nil_append] at HOn); clear HO; have HO := HOn; clear HOn))
                  | (with_reducible (first | (refine own_at_load 32 ?_; refine op_0 HO rfl _ _ _ _ rfl (by repeat first | apply Has.head | apply Has.tail) (by repeat first | apply Part.done | apply Part.take | apply Part.skip) ?_) | (refine own_at_load 27 ?_; refine op_1 HO rfl _ _ _ _ rfl (by repeat first | apply Has.head | apply Has.tail) (by repeat first | apply Part.done | apply Part.take | apply Part.skip) ?_) | (refine own_at_load 29 ?_; refine op_2 HO rfl _ _ _ _ rfl (by repeat first | apply Has.head | apply Has.tail) (by repeat first | apply Part.done | apply Part.take | apply Part.skip) ?_) | (refine own_at_load 37 ?_; refine op_3a HO rfl _ _ _ _ rfl (by repeat first | apply Has.head | apply Has.tail) (by repeat first | apply Part.done | apply Part.take | apply Part.skip) ?_) | (refine own_at_load 4 ?_; refine sl_0 HO rfl _ _ _ _ rfl (by repeat first | apply Has.head | apply Has.tail) rfl ?_) | (refine own_at_load 3 ?_; refine sl_1 HO rfl _ _ _ _ rfl (by repeat first | apply Has.head | apply Has.tail) rfl ?_) | (refine own_at_load 30 ?_; refine sl_2 HO rfl _ _ _ _ rfl (by repeat first | apply Has.head | apply Has.tail) rfl ?_) | (refine own_at_load 5 ?_; refine sl_3a HO rfl _ _ _ _ rfl (by repeat first | apply Has.head | apply Has.tail) rfl ?_)))
                  | (with_reducible ((first | (refine own_at_store 32 ?_; refine os_0 HO _ rfl rfl _ _ rfl (by repeat first | apply Sto.head | apply Sto.tail | apply Patch.put | apply Patch.skip | apply Patch.done) rfl ?_) | (refine own_at_store 27 ?_; refine os_1 HO _ rfl rfl _ _ rfl (by repeat first | apply Sto.head | apply Sto.tail | apply Patch.put | apply Patch.skip | apply Patch.done) rfl ?_) | (refine own_at_store 29 ?_; refine os_2 HO _ rfl rfl _ _ rfl (by repeat first | apply Sto.head | apply Sto.tail | apply Patch.put | apply Patch.skip | apply Patch.done) rfl ?_) | (refine own_at_store 37 ?_; refine os_3a HO _ rfl rfl _ _ rfl (by repeat first | apply Sto.head | apply Sto.tail | apply Patch.put | apply Patch.skip | apply Patch.done) rfl ?_) | (refine own_at_store 4 ?_; refine st_0 HO (.bool _) rfl rfl _ _ rfl (by repeat first | apply Sto.head | apply Sto.tail | apply Patch.put | apply Patch.skip | apply Patch.done) rfl ?_) | (refine own_at_store 3 ?_; refine st_1 HO (.int .i64 _) rfl rfl _ _ rfl (by repeat first | apply Sto.head | apply Sto.tail | apply Patch.put | apply Patch.skip | apply Patch.done) rfl ?_) | (refine own_at_store 30 ?_; refine st_2 HO (.slice _ _ _) rfl rfl _ _ rfl (by repeat first | apply Sto.head | apply Sto.tail | apply Patch.put | apply Patch.skip | apply Patch.done) rfl ?_) | (refine own_at_store 5 ?_; refine st_3a HO (.int .u8 _) rfl rfl _ _ rfl (by repeat first | apply Sto.head | apply Sto.tail | apply Patch.put | apply Patch.skip | apply Patch.done) rfl ?_)); intro WB HOn; clear HO; have HO := HOn; clear HOn))
                  | (with_reducible refine own_at_load 37 ?_; refine wpList_own_elem rfl 37 _ rfl HO _ Try.underlying37 rfl oinfo_3a 1 _ _ xs rfl acL_len (by decide) q _ HX.out rfl _ rfl ?_)
                  | (go_at_call 14; refine (frozen_f _ _ _ _ _ _ _ _ _ _ _ _ _ _ _ _ _ _ _ _ _ _).mono ?_; rintro e wc ⟨rfl, hb⟩; have HOn := HO.below hb; clear HO hb; have HO := HOn; clear HOn)
                  | (go_at_call 10; refine (end_f _ _ _ _ _ _ _ _ _ _ _ _ _ _ _ _ _ _ _ _ _ _).mono ?_; rintro e wc ⟨rfl, hb⟩; have HOn := HO.below hb; clear HO hb; have HO := HOn; clear HOn))
            refine (waiting_at _ _ _ _ _ _ _ _ _ _ _ _ _ _ _ _ _ _ A m c ws b o _ (HW).out (HC).out.1 (HC).out.2 (HA).out (fun hne => ⟨(HO.rng 0 _ _ _ rfl hne).1, (HO.rng 0 _ _ _ rfl hne).2.1⟩) (by omega)).mono ?_
            rintro e wc ⟨v9, rfl, ho9, hb⟩
            obtain ⟨g9, ⟨A9, c9, rfl, hn9, hm9, hA9⟩, hr9⟩ := own_row ho9 (by decide)
            have HOn := HO.pushNew hb g9 0 _ hr9
            clear HO hb ho9 hr9
            have HO := HOn
            clear HOn
            have hsub : (come : Int) + (m : Int) - (come : Int) = (m : Int) := by omega
            by_cases hm0 : 0 < m
            · obtain rfl : A9 = some ⟨g9, 0, none⟩ := hA9 hm0
              obtain ⟨x, hx⟩ : ∃ x, (ws)[0]? = some x := ⟨_, List.getElem?_eq_getElem (by rw [(HW).out]; exact hm0)⟩
              have hxn := (HF).out 0 x hx
              obtain ⟨v0, v1, v2, v3, v4, v5⟩ := x
              have cw := HO.elemCell inL_len (by decide) 0 _ _ (ws) rfl hx 5 rfl
              dsimp only at cw hxn
              simp only [Nat.zero_mul, Nat.add_zero, Nat.zero_add] at cw hxn
              subst hxn
              have hmi : (0 : Int) < ((m : Nat) : Int) := by omega
              have hmn : 0 < m := hm0
              clear hx hA9
              go_wp2_with fail
              go_roundw
              case rel => exact ⟨q + 1, come, m, c, b, o, A, ⟨⟨0, 0, false, 0, false, false, 0, 0⟩, false, false, false, ⟨0, 0, 0, 0, 0, 0⟩, false⟩, ws, by go_num, rfl, rfl, by omega, by omega, HW, HC, HA, HF, Lib.hid ((HO.tailR).takeL 1)⟩
              case measure => simp [intOf] <;> omega
            · have hmi : ¬ (0 : Int) < ((m : Nat) : Int) := by omega
              clear hA9
              go_wp2_with fail
              go_roundw
              case rel => exact ⟨q + 1, come, m, c, b, o, A, ⟨⟨0, 0, false, 0, false, false, 0, 0⟩, false, false, false, ⟨0, 0, 0, 0, 0, 0⟩, false⟩, ws, by go_num, rfl, rfl, by omega, by omega, HW, HC, HA, HF, Lib.hid ((HO.tailR).takeL 1)⟩
              case measure => simp [intOf] <;> omega
        · have hr8 : e0.tmod 8 = 2 := h8
          clear h8
          as_aux_lemma =>
            go_wp2_with (first
                  | (with_reducible ((first | (refine own_at_box 32 ?_; refine ob_0 HO _ rfl ?_) | (refine own_at_alloc 32 ?_; refine oa_0 HO ?_) | (refine own_at_box 27 ?_; refine ob_1 HO _ rfl ?_) | (refine own_at_alloc 27 ?_; refine oa_1 HO ?_) | (refine own_at_box 29 ?_; refine ob_2 HO _ rfl ?_) | (refine own_at_alloc 29 ?_; refine oa_2 HO ?_) | (refine own_at_box 37 ?_; refine ob_3a HO _ rfl ?_) | (refine own_at_alloc 37 ?_; refine oa_3a HO ?_) | (refine own_at_box 4 ?_; refine sb_0 HO (.bool _) rfl rfl ?_) | (refine own_at_alloc 4 ?_; refine sa_0 HO ?_) | (refine own_at_box 3 ?_; refine sb_1 HO (.int .i64 _) rfl rfl ?_) | (refine own_at_alloc 3 ?_; refine sa_1 HO ?_) | (refine own_at_box 30 ?_; refine sb_2 HO (.slice _ _ _) rfl rfl ?_) | (refine own_at_alloc 30 ?_; refine sa_2 HO ?_) | (refine own_at_box 5 ?_; refine sb_3a HO (.int .u8 _) rfl rfl ?_) | (refine own_at_alloc 5 ?_; refine sa_3a HO ?_)); intro nB WB HOn; (try simp only [List.cons_append, List.nil_append] at HOn); clear HO; have HO := HOn; clear HOn))
                  | (with_reducible (first | (refine own_at_load 32 ?_; refine op_0 HO rfl _ _ _ _ rfl (by repeat first | apply Has.head | apply Has.tail) (by repeat first | apply Part.done | apply Part.take | apply Part.skip) ?_) | (refine own_at_load 27 ?_; refine op_1 HO rfl _ _ _ _ rfl (by repeat first | apply Has.head | apply Has.tail) (by repeat first | apply Part.done | apply Part.take | apply Part.skip) ?_) | (refine own_at_load 29 ?_; refine op_2 HO rfl _ _ _ _ rfl (by repeat first | apply Has.head | apply Has.tail) (by repeat first | apply Part.done | apply Part.take | apply Part.skip) ?_) | (refine own_at_load 37 ?_; refine op_3a HO rfl _ _ _ _ rfl (by repeat first | apply Has.head | apply Has.tail) (by repeat first | apply Part.done | apply Part.take | apply Part.skip) ?_) | (refine own_at_load 4 ?_; refine sl_0 HO rfl _ _ _ _ rfl (by repeat first | apply Has.head | apply Has.tail) rfl ?_) | (refine own_at_load 3 ?_; refine sl_1 HO rfl _ _ _ _ rfl (by repeat first | apply Has.head | apply Has.tail) rfl ?_) | (refine own_at_load 30 ?_; refine sl_2 HO rfl _ _ _ _ rfl (by repeat first | apply Has.head | apply Has.tail) rfl ?_) | (refine own_at_load 5 ?_; refine sl_3a HO rfl _ _ _ _ rfl (by repeat first | apply Has.head | apply Has.tail) rfl ?_)))
                  | (with_reducible ((first | (refine own_at_store 32 ?_; refine os_0 HO _ rfl rfl _ _ rfl (by repeat first | apply Sto.head | apply Sto.tail | apply Patch.put | apply Patch.skip | apply Patch.done) rfl ?_) | (refine own_at_store 27 ?_; refine os_1 HO _ rfl rfl _ _ rfl (by repeat first | apply Sto.head | apply Sto.tail | apply Patch.put | apply Patch.skip | apply Patch.done) rfl ?_) | (refine own_at_store 29 ?_; refine os_2 HO _ rfl rfl _ _ rfl (by repeat first | apply Sto.head | apply Sto.tail | apply Patch.put | apply Patch.skip | apply Patch.done) rfl ?_) | (refine own_at_store 37 ?_; refine os_3a HO _ rfl rfl _ _ rfl (by repeat first | apply Sto.head | apply Sto.tail | apply Patch.put | apply Patch.skip | apply Patch.done) rfl ?_) | (refine own_at_store 4 ?_; refine st_0 HO (.bool _) rfl rfl _ _ rfl (by repeat first | apply Sto.head | apply Sto.tail | apply Patch.put | apply Patch.skip | apply Patch.done) rfl ?_) | (refine own_at_store 3 ?_; refine st_1 HO (.int .i64 _) rfl rfl _ _ rfl (by repeat first | apply Sto.head | apply Sto.tail | apply Patch.put | apply Patch.skip | apply Patch.done) rfl ?_) | (refine own_at_store 30 ?_; refine st_2 HO (.slice _ _ _) rfl rfl _ _ rfl (by repeat first | apply Sto.head | apply Sto.tail | apply Patch.put | apply Patch.skip | apply Patch.done) rfl ?_) | (refine own_at_store 5 ?_; refine st_3a HO (.int .u8 _) rfl rfl _ _ rfl (by repeat first | apply Sto.head | apply Sto.tail | apply Patch.put | apply Patch.skip | apply Patch.done) rfl ?_)); intro WB HOn; clear HO; have HO := HOn; clear HOn))
                  | (with_reducible refine own_at_load 37 ?_; refine wpList_own_elem rfl 37 _ rfl HO _ Try.underlying37 rfl oinfo_3a 1 _ _ xs rfl acL_len (by decide) q _ HX.out rfl _ rfl ?_)
                  | (go_at_call 14; refine (frozen_f _ _ _ _ _ _ _ _ _ _ _ _ _ _ _ _ _ _ _ _ _ _).mono ?_; rintro e wc ⟨rfl, hb⟩; have HOn := HO.below hb; clear HO hb; have HO := HOn; clear HOn)
                  | (go_at_call 16; refine (hold_f _ _ _ _ _ _ _ _ _ _ _ _ _ _ _ _ _ _ _ _ _ _ _ _ _ _ _ _).mono ?_; rintro e wc ⟨rfl, hb⟩; have HOn := HO.below hb; clear HO hb; have HO := HOn; clear HOn))
            refine (waiting_at _ _ _ _ _ _ _ _ _ _ _ _ _ _ _ _ _ _ A m c ws b o _ (HW).out (HC).out.1 (HC).out.2 (HA).out (fun hne => ⟨(HO.rng 0 _ _ _ rfl hne).1, (HO.rng 0 _ _ _ rfl hne).2.1⟩) (by omega)).mono ?_
            rintro e wc ⟨v9, rfl, ho9, hb⟩
            obtain ⟨g9, ⟨A9, c9, rfl, hn9, hm9, hA9⟩, hr9⟩ := own_row ho9 (by decide)
            have HOn := HO.pushNew hb g9 0 _ hr9
            clear HO hb ho9 hr9
            have HO := HOn
            clear HOn
            have hsub : (come : Int) + (m : Int) - (come : Int) = (m : Int) := by omega
            by_cases hm0 : 0 < m
            · obtain rfl : A9 = some ⟨g9, 0, none⟩ := hA9 hm0
              obtain ⟨x, hx⟩ : ∃ x, (ws)[0]? = some x := ⟨_, List.getElem?_eq_getElem (by rw [(HW).out]; exact hm0)⟩
              have hxn := (HF).out 0 x hx
              obtain ⟨v0, v1, v2, v3, v4, v5⟩ := x
              have cw := HO.elemCell inL_len (by decide) 0 _ _ (ws) rfl hx 5 rfl
              dsimp only at cw hxn
              simp only [Nat.zero_mul, Nat.add_zero, Nat.zero_add] at cw hxn
              subst hxn
              have hmi : (0 : Int) < ((m : Nat) : Int) := by omega
              have hmn : 0 < m := hm0
              clear hx hA9
              go_wp2_with fail
              go_roundw
              case rel => exact ⟨q + 1, come, m, c, b, o, A, ⟨⟨d0, d1, d2, d3, d4, d5, d6, d7⟩, d8, d9, d10, ⟨z0, z1, z2, z3, z4, ((come : Int) + (m : Int))⟩, true⟩, ws, by go_num, rfl, rfl, by omega, by omega, HW, HC, HA, HF, Lib.hid ((HO.tailR).takeL 1)⟩
              case measure => simp [intOf] <;> omega
            · have hmi : ¬ (0 : Int) < ((m : Nat) : Int) := by omega
              clear hA9
              go_wp2_with fail
              go_roundw
              case rel => exact ⟨q + 1, come, m, c, b, o, A, ⟨⟨d0, d1, d2, d3, d4, d5, d6, d7⟩, d8, d9, d10, ⟨z0, z1, z2, z3, z4, ((come : Int) + (m : Int))⟩, true⟩, ws, by go_num, rfl, rfl, by omega, by omega, HW, HC, HA, HF, Lib.hid ((HO.tailR).takeL 1)⟩
              case measure => simp [intOf] <;> omega
        · have hr8 : e0.tmod 8 = 3 := h8
          clear h8
          as_aux_lemma =>
            go_wp2_with (first
                  | (with_reducible ((first | (refine own_at_box 32 ?_; refine ob_0 HO _ rfl ?_) | (refine own_at_alloc 32 ?_; refine oa_0 HO ?_) | (refine own_at_box 27 ?_; refine ob_1 HO _ rfl ?_) | (refine own_at_alloc 27 ?_; refine oa_1 HO ?_) | (refine own_at_box 29 ?_; refine ob_2 HO _ rfl ?_) | (refine own_at_alloc 29 ?_; refine oa_2 HO ?_) | (refine own_at_box 37 ?_; refine ob_3a HO _ rfl ?_) | (refine own_at_alloc 37 ?_; refine oa_3a HO ?_) | (refine own_at_box 4 ?_; refine sb_0 HO (.bool _) rfl rfl ?_) | (refine own_at_alloc 4 ?_; refine sa_0 HO ?_) | (refine own_at_box 3 ?_; refine sb_1 HO (.int .i64 _) rfl rfl ?_) | (refine own_at_alloc 3 ?_; refine sa_1 HO ?_) | (refine own_at_box 30 ?_; refine sb_2 HO (.slice _ _ _) rfl rfl ?_) | (refine own_at_alloc 30 ?_; refine sa_2 HO ?_) | (refine own_at_box 5 ?_; refine sb_3a HO (.int .u8 _) rfl rfl ?_) | (refine own_at_alloc 5 ?_; refine sa_3a HO ?_)); intro nB WB HOn; (try simp only [List.cons_append, List.nil_append] at HOn); clear HO; have HO := HOn; clear HOn))
                  | (with_reducible (first | (refine own_at_load 32 ?_; refine op_0 HO rfl _ _ _ _ rfl (by repeat first | apply Has.head | apply Has.tail) (by repeat first | apply Part.done | apply Part.take | apply Part.skip) ?_) | (refine own_at_load 27 ?_; refine op_1 HO rfl _ _ _ _ rfl (by repeat first | apply Has.head | apply Has.tail) (by repeat first | apply Part.done | apply Part.take | apply Part.skip) ?_) | (refine own_at_load 29 ?_; refine op_2 HO rfl _ _ _ _ rfl (by repeat first | apply Has.head | apply Has.tail) (by repeat first | apply Part.done | apply Part.take | apply Part.skip) ?_) | (refine own_at_load 37 ?_; refine op_3a HO rfl _ _ _ _ rfl (by repeat first | apply Has.head | apply Has.tail) (by repeat first | apply Part.done | apply Part.take | apply Part.skip) ?_) | (refine own_at_load 4 ?_; refine sl_0 HO rfl _ _ _ _ rfl (by repeat first | apply Has.head | apply Has.tail) rfl ?_) | (refine own_at_load 3 ?_; refine sl_1 HO rfl _ _ _ _ rfl (by repeat first | apply Has.head | apply Has.tail) rfl ?_) | (refine own_at_load 30 ?_; refine sl_2 HO rfl _ _ _ _ rfl (by repeat first | apply Has.head | apply Has.tail) rfl ?_) | (refine own_at_load 5 ?_; refine sl_3a HO rfl _ _ _ _ rfl (by repeat first | apply Has.head | apply Has.tail) rfl ?_)))
                  | (with_reducible ((first | (refine own_at_store 32 ?_; refine os_0 HO _ rfl rfl _ _ rfl (by repeat first | apply Sto.head | apply Sto.tail | apply Patch.put | apply Patch.skip | apply Patch.done) rfl ?_) | (refine own_at_store 27 ?_; refine os_1 HO _ rfl rfl _ _ rfl (by repeat first | apply Sto.head | apply Sto.tail | apply Patch.put | apply Patch.skip | apply Patch.done) rfl ?_) | (refine own_at_store 29 ?_; refine os_2 HO _ rfl rfl _ _ rfl (by repeat first | apply Sto.head | apply Sto.tail | apply Patch.put | apply Patch.skip | apply Patch.done) rfl ?_) | (refine own_at_store 37 ?_; refine os_3a HO _ rfl rfl _ _ rfl (by repeat first | apply Sto.head | apply Sto.tail | apply Patch.put | apply Patch.skip | apply Patch.done) rfl ?_) | (refine own_at_store 4 ?_; refine st_0 HO (.bool _) rfl rfl _ _ rfl (by repeat first | apply Sto.head | apply Sto.tail | apply Patch.put | apply Patch.skip | apply Patch.done) rfl ?_) | (refine own_at_store 3 ?_; refine st_1 HO (.int .i64 _) rfl rfl _ _ rfl (by repeat first | apply Sto.head | apply Sto.tail | apply Patch.put | apply Patch.skip | apply Patch.done) rfl ?_) | (refine own_at_store 30 ?_; refine st_2 HO (.slice _ _ _) rfl rfl _ _ rfl (by repeat first | apply Sto.head | apply Sto.tail | apply Patch.put | apply Patch.skip | apply Patch.done) rfl ?_) | (refine own_at_store 5 ?_; refine st_3a HO (.int .u8 _) rfl rfl _ _ rfl (by repeat first | apply Sto.head | apply Sto.tail | apply Patch.put | apply Patch.skip | apply Patch.done) rfl ?_)); intro WB HOn; clear HO; have HO := HOn; clear HOn))
                  | (with_reducible refine own_at_load 37 ?_; refine wpList_own_elem rfl 37 _ rfl HO _ Try.underlying37 rfl oinfo_3a 1 _ _ xs rfl acL_len (by decide) q _ HX.out rfl _ rfl ?_)
                  | (go_at_call 14; refine (frozen_f _ _ _ _ _ _ _ _ _ _ _ _ _ _ _ _ _ _ _ _ _ _).mono ?_; rintro e wc ⟨rfl, hb⟩; have HOn := HO.below hb; clear HO hb; have HO := HOn; clear HOn)
                  | (go_at_call 17; refine (freeze_f _ _ _ _ _ _ _ _ _ _ _ _ _ _ _ _ _ _ _ _ _ _).mono ?_; rintro e wc ⟨rfl, hb⟩; have HOn := HO.below hb; clear HO hb; have HO := HOn; clear HOn))
            refine (waiting_at _ _ _ _ _ _ _ _ _ _ _ _ _ _ _ _ _ _ A m c ws b o _ (HW).out (HC).out.1 (HC).out.2 (HA).out (fun hne => ⟨(HO.rng 0 _ _ _ rfl hne).1, (HO.rng 0 _ _ _ rfl hne).2.1⟩) (by omega)).mono ?_
            rintro e wc ⟨v9, rfl, ho9, hb⟩
            obtain ⟨g9, ⟨A9, c9, rfl, hn9, hm9, hA9⟩, hr9⟩ := own_row ho9 (by decide)
            have HOn := HO.pushNew hb g9 0 _ hr9
            clear HO hb ho9 hr9
            have HO := HOn
            clear HOn
            have hsub : (come : Int) + (m : Int) - (come : Int) = (m : Int) := by omega
            by_cases hm0 : 0 < m
            · obtain rfl : A9 = some ⟨g9, 0, none⟩ := hA9 hm0
              obtain ⟨x, hx⟩ : ∃ x, (ws)[0]? = some x := ⟨_, List.getElem?_eq_getElem (by rw [(HW).out]; exact hm0)⟩
              have hxn := (HF).out 0 x hx
              obtain ⟨v0, v1, v2, v3, v4, v5⟩ := x
              have cw := HO.elemCell inL_len (by decide) 0 _ _ (ws) rfl hx 5 rfl
              dsimp only at cw hxn
              simp only [Nat.zero_mul, Nat.add_zero, Nat.zero_add] at cw hxn
              subst hxn
              have hmi : (0 : Int) < ((m : Nat) : Int) := by omega
              have hmn : 0 < m := hm0
              clear hx hA9
              go_wp2_with fail
              go_roundw
              case rel => exact ⟨q + 1, come, m, c, b, o, A, ⟨⟨d0, d1, d2, d3, d4, d5, d6, d7⟩, d8, true, false, ⟨d11, d12, d13, d14, d15, d16⟩, d17⟩, ws, by go_num, rfl, rfl, by omega, by omega, HW, HC, HA, HF, Lib.hid ((HO.tailR).takeL 1)⟩
              case measure => simp [intOf] <;> omega
            · have hmi : ¬ (0 : Int) < ((m : Nat) : Int) := by omega
              clear hA9
              go_wp2_with fail
              go_roundw
              case rel => exact ⟨q + 1, come, m, c, b, o, A, ⟨⟨d0, d1, d2, d3, d4, d5, d6, d7⟩, d8, true, false, ⟨d11, d12, d13, d14, d15, d16⟩, d17⟩, ws, by go_num, rfl, rfl, by omega, by omega, HW, HC, HA, HF, Lib.hid ((HO.tailR).takeL 1)⟩
              case measure => simp [intOf] <;> omega
        · have hr8 : e0.tmod 8 = 4 := h8
          clear h8
          as_aux_lemma =>
            go_wp2_with (first
                  | (with_reducible ((first | (refine own_at_box 32 ?_; refine ob_0 HO _ rfl ?_) | (refine own_at_alloc 32 ?_; refine oa_0 HO ?_) | (refine own_at_box 27 ?_; refine ob_1 HO _ rfl ?_) | (refine own_at_alloc 27 ?_; refine oa_1 HO ?_) | (refine own_at_box 29 ?_; refine ob_2 HO _ rfl ?_) | (refine own_at_alloc 29 ?_; refine oa_2 HO ?_) | (refine own_at_box 37 ?_; refine ob_3a HO _ rfl ?_) | (refine own_at_alloc 37 ?_; refine oa_3a HO ?_) | (refine own_at_box 4 ?_; refine sb_0 HO (.bool _) rfl rfl ?_) | (refine own_at_alloc 4 ?_; refine sa_0 HO ?_) | (refine own_at_box 3 ?_; refine sb_1 HO (.int .i64 _) rfl rfl ?_) | (refine own_at_alloc 3 ?_; refine sa_1 HO ?_) | (refine own_at_box 30 ?_; refine sb_2 HO (.slice _ _ _) rfl rfl ?_) | (refine own_at_alloc 30 ?_; refine sa_2 HO ?_) | (refine own_at_box 5 ?_; refine sb_3a HO (.int .u8 _) rfl rfl ?_) | (refine own_at_alloc 5 ?_; refine sa_3a HO ?_)); intro nB WB HOn; (try simp only [List.cons_append, List.nil_append] at HOn); clear HO; have HO := HOn; clear HOn))
                  | (with_reducible (first | (refine own_at_load 32 ?_; refine op_0 HO rfl _ _ _ _ rfl (by repeat first | apply Has.head | apply Has.tail) (by repeat first | apply Part.done | apply Part.take | apply Part.skip) ?_) | (refine own_at_load 27 ?_; refine op_1 HO rfl _ _ _ _ rfl (by repeat first | apply Has.head | apply Has.tail) (by repeat first | apply Part.done | apply Part.take | apply Part.skip) ?_) | (refine own_at_load 29 ?_; refine op_2 HO rfl _ _ _ _ rfl (by repeat first | apply Has.head | apply Has.tail) (by repeat first | apply Part.done | apply Part.take | apply Part.skip) ?_) | (refine own_at_load 37 ?_; refine op_3a HO rfl _ _ _ _ rfl (by repeat first | apply Has.head | apply Has.tail) (by repeat first | apply Part.done | apply Part.take | apply Part.skip) ?_) | (refine own_at_load 4 ?_; refine sl_0 HO rfl _ _ _ _ rfl (by repeat first | apply Has.head | apply Has.tail) rfl ?_) | (refine own_at_load 3 ?_; refine sl_1 HO rfl _ _ _ _ rfl (by repeat first | apply Has.head | apply Has.tail) rfl ?_) | (refine own_at_load 30 ?_; refine sl_2 HO rfl _ _ _ _ rfl (by repeat first | apply Has.head | apply Has.tail) rfl ?_) | (refine own_at_load 5 ?_; refine sl_3a HO rfl _ _ _ _ rfl (by repeat first | apply Has.head | apply Has.tail) rfl ?_)))
                  | (with_reducible ((first | (refine own_at_store 32 ?_; refine os_0 HO _ rfl rfl _ _ rfl (by repeat first | apply Sto.head | apply Sto.tail | apply Patch.put | apply Patch.skip | apply Patch.done) rfl ?_) | (refine own_at_store 27 ?_; refine os_1 HO _ rfl rfl _ _ rfl (by repeat first | apply Sto.head | apply Sto.tail | apply Patch.put | apply Patch.skip | apply Patch.done) rfl ?_) | (refine own_at_store 29 ?_; refine os_2 HO _ rfl rfl _ _ rfl (by repeat first | apply Sto.head | apply Sto.tail | apply Patch.put | apply Patch.skip | apply Patch.done) rfl ?_) | (refine own_at_store 37 ?_; refine os_3a HO _ rfl rfl _ _ rfl (by repeat first | apply Sto.head | apply Sto.tail | apply Patch.put | apply Patch.skip | apply Patch.done) rfl ?_) | (refine own_at_store 4 ?_; refine st_0 HO (.bool _) rfl rfl _ _ rfl (by repeat first | apply Sto.head | apply Sto.tail | apply Patch.put | apply Patch.skip | apply Patch.done) rfl ?_) | (refine own_at_store 3 ?_; refine st_1 HO (.int .i64 _) rfl rfl _ _ rfl (by repeat first | apply Sto.head | apply Sto.tail | apply Patch.put | apply Patch.skip | apply Patch.done) rfl ?_) | (refine own_at_store 30 ?_; refine st_2 HO (.slice _ _ _) rfl rfl _ _ rfl (by repeat first | apply Sto.head | apply Sto.tail | apply Patch.put | apply Patch.skip | apply Patch.done) rfl ?_) | (refine own_at_store 5 ?_; refine st_3a HO (.int .u8 _) rfl rfl _ _ rfl (by repeat first | apply Sto.head | apply Sto.tail | apply Patch.put | apply Patch.skip | apply Patch.done) rfl ?_)); intro WB HOn; clear HO; have HO := HOn; clear HOn))
                  | (with_reducible refine own_at_load 37 ?_; refine wpList_own_elem rfl 37 _ rfl HO _ Try.underlying37 rfl oinfo_3a 1 _ _ xs rfl acL_len (by decide) q _ HX.out rfl _ rfl ?_)
                  | (go_at_call 14; refine (frozen_f _ _ _ _ _ _ _ _ _ _ _ _ _ _ _ _ _ _ _ _ _ _).mono ?_; rintro e wc ⟨rfl, hb⟩; have HOn := HO.below hb; clear HO hb; have HO := HOn; clear HOn)
                  | (go_at_call 9; refine (feed_at _ _ _ _ _ _ _ _ _ _ _ _ _ _ _ _ _ _ A m c ws b o _ _ _ _ _ _ _ HW.out HC.out.1 HC.out.2 HA.out (fun hne => ⟨(HO.rng 0 _ _ _ rfl hne).1, (HO.rng 0 _ _ _ rfl hne).2.1⟩) (by omega)).mono ?_; rintro e wc ⟨g1, cg1, rfl, hc1, hm1, hr1, hb⟩; have HOn := (HO.pushNew hb g1 0 _ (fun _ => hr1)).skip1; clear HO hb; have HO := HOn; clear HOn))
            have HW1 : Hid (((ws ++ [(⟨z0, z1, z2, z3, z4, (come : Int) + (m : Int)⟩ : In)])).length = (m + 1)) := (Lib.hid (by rw [List.length_append, HW.out]; rfl))
            have HC1 : Hid ((m + 1) ≤ cg1 ∧ cg1 ≤ maxLen) := (Lib.hid (And.intro hc1 hm1))
            have HA1 : Hid (0 < (m + 1) → (some (⟨g1, 0, none⟩ : Addr)) = some ⟨g1, 0, none⟩) := (Lib.hid (fun _ => rfl))
            have HF1 : Hid (FedL (ws ++ [(⟨z0, z1, z2, z3, z4, (come : Int) + (m : Int)⟩ : In)]) come) := (Lib.hid (fedL_snoc HF.out HW.out rfl))
            refine (waiting_at _ _ _ _ _ _ _ _ _ _ _ _ _ _ _ _ _ _ (some (⟨g1, 0, none⟩ : Addr)) (m + 1) cg1 (ws ++ [(⟨z0, z1, z2, z3, z4, (come : Int) + (m : Int)⟩ : In)]) g1 0 _ (HW1).out (HC1).out.1 (HC1).out.2 (HA1).out (fun hne => ⟨(HO.rng 0 _ _ _ rfl hne).1, (HO.rng 0 _ _ _ rfl hne).2.1⟩) (by omega)).mono ?_
            rintro e wc ⟨v9, rfl, ho9, hb⟩
            obtain ⟨g9, ⟨A9, c9, rfl, hn9, hm9, hA9⟩, hr9⟩ := own_row ho9 (by decide)
            have HOn := HO.pushNew hb g9 0 _ hr9
            clear HO hb ho9 hr9
            have HO := HOn
            clear HOn
            have hsub : (come : Int) + (m : Int) + 1 - (come : Int) = (m : Int) + 1 := by omega
            by_cases hm0 : 0 < (m + 1)
            · obtain rfl : A9 = some ⟨g9, 0, none⟩ := hA9 hm0
              obtain ⟨x, hx⟩ : ∃ x, ((ws ++ [(⟨z0, z1, z2, z3, z4, (come : Int) + (m : Int)⟩ : In)]))[0]? = some x := ⟨_, List.getElem?_eq_getElem (by rw [(HW1).out]; exact hm0)⟩
              have hxn := (HF1).out 0 x hx
              obtain ⟨v0, v1, v2, v3, v4, v5⟩ := x
              have cw := HO.elemCell inL_len (by decide) 0 _ _ ((ws ++ [(⟨z0, z1, z2, z3, z4, (come : Int) + (m : Int)⟩ : In)])) rfl hx 5 rfl
              dsimp only at cw hxn
              simp only [Nat.zero_mul, Nat.add_zero, Nat.zero_add] at cw hxn
              subst hxn
              have hmi : (0 : Int) < (((m + 1) : Nat) : Int) := by omega
              have hmn : 0 < (m + 1) := hm0
              clear hx hA9
              go_wp2_with fail
              go_roundw
              case rel => exact ⟨q + 1, come, (m + 1), cg1, g1, 0, (some (⟨g1, 0, none⟩ : Addr)), ⟨⟨d0, d1, d2, d3, d4, d5, d6, d7⟩, d8, d9, d10, ⟨d11, d12, d13, d14, d15, d16⟩, d17⟩, (ws ++ [(⟨z0, z1, z2, z3, z4, (come : Int) + (m : Int)⟩ : In)]), by go_num, rfl, (by first | rfl | (congr 1; omega) | (congr 1; push_cast; omega)), by omega, by omega, (Lib.hid (by rw [List.length_append, HW.out]; rfl)), (Lib.hid (And.intro hc1 hm1)), (Lib.hid (fun _ => rfl)), (Lib.hid (fedL_snoc HF.out HW.out rfl)), Lib.hid ((HO.tailR).takeL 1)⟩
              case measure => simp [intOf] <;> omega
            · exact absurd (Nat.succ_pos m) hm0
        · have hr8 : e0.tmod 8 = 5 := h8
          clear h8
          as_aux_lemma =>
            go_wp2_with (first
                  | (with_reducible ((first | (refine own_at_box 32 ?_; refine ob_0 HO _ rfl ?_) | (refine own_at_alloc 32 ?_; refine oa_0 HO ?_) | (refine own_at_box 27 ?_; refine ob_1 HO _ rfl ?_) | (refine own_at_alloc 27 ?_; refine oa_1 HO ?_) | (refine own_at_box 29 ?_; refine ob_2 HO _ rfl ?_) | (refine own_at_alloc 29 ?_; refine oa_2 HO ?_) | (refine own_at_box 37 ?_; refine ob_3a HO _ rfl ?_) | (refine own_at_alloc 37 ?_; refine oa_3a HO ?_) | (refine own_at_box 4 ?_; refine sb_0 HO (.bool _) rfl rfl ?_) | (refine own_at_alloc 4 ?_; refine sa_0 HO ?_) | (refine own_at_box 3 ?_; refine sb_1 HO (.int .i64 _) rfl rfl ?_) | (refine own_at_alloc 3 ?_; refine sa_1 HO ?_) | (refine own_at_box 30 ?_; refine sb_2 HO (.slice _ _ _) rfl rfl ?_) | (refine own_at_alloc 30 ?_; refine sa_2 HO ?_) | (refine own_at_box 5 ?_; refine sb_3a HO (.int .u8 _) rfl rfl ?_) | (refine own_at_alloc 5 ?_; refine sa_3a HO ?_)); intro nB WB HOn; (try simp only [List.cons_append, List.nil_append] at HOn); clear HO; have HO := HOn; clear HOn))
                  | (with_reducible (first | (refine own_at_load 32 ?_; refine op_0 HO rfl _ _ _ _ rfl (by repeat first | apply Has.head | apply Has.tail) (by repeat first | apply Part.done | apply Part.take | apply Part.skip) ?_) | (refine own_at_load 27 ?_; refine op_1 HO rfl _ _ _ _ rfl (by repeat first | apply Has.head | apply Has.tail) (by repeat first | apply Part.done | apply Part.take | apply Part.skip) ?_) | (refine own_at_load 29 ?_; refine op_2 HO rfl _ _ _ _ rfl (by repeat first | apply Has.head | apply Has.tail) (by repeat first | apply Part.done | apply Part.take | apply Part.skip) ?_) | (refine own_at_load 37 ?_; refine op_3a HO rfl _ _ _ _ rfl (by repeat first | apply Has.head | apply Has.tail) (by repeat first | apply Part.done | apply Part.take | apply Part.skip) ?_) | (refine own_at_load 4 ?_; refine sl_0 HO rfl _ _ _ _ rfl (by repeat first | apply Has.head | apply Has.tail) rfl ?_) | (refine own_at_load 3 ?_; refine sl_1 HO rfl _ _ _ _ rfl (by repeat first | apply Has.head | apply Has.tail) rfl ?_) | (refine own_at_load 30 ?_; refine sl_2 HO rfl _ _ _ _ rfl (by repeat first | apply Has.head | apply Has.tail) rfl ?_) | (refine own_at_load 5 ?_; refine sl_3a HO rfl _ _ _ _ rfl (by repeat first | apply Has.head | apply Has.tail) rfl ?_)))
                  | (with_reducible ((first | (refine own_at_store 32 ?_; refine os_0 HO _ rfl rfl _ _ rfl (by repeat first | apply Sto.head | apply Sto.tail | apply Patch.put | apply Patch.skip | apply Patch.done) rfl ?_) | (refine own_at_store 27 ?_; refine os_1 HO _ rfl rfl _ _ rfl (by repeat first | apply Sto.head | apply Sto.tail | apply Patch.put | apply Patch.skip | apply Patch.done) rfl ?_) | (refine own_at_store 29 ?_; refine os_2 HO _ rfl rfl _ _ rfl (by repeat first | apply Sto.head | apply Sto.tail | apply Patch.put | apply Patch.skip | apply Patch.done) rfl ?_) | (refine own_at_store 37 ?_; refine os_3a HO _ rfl rfl _ _ rfl (by repeat first | apply Sto.head | apply Sto.tail | apply Patch.put | apply Patch.skip | apply Patch.done) rfl ?_) | (refine own_at_store 4 ?_; refine st_0 HO (.bool _) rfl rfl _ _ rfl (by repeat first | apply Sto.head | apply Sto.tail | apply Patch.put | apply Patch.skip | apply Patch.done) rfl ?_) | (refine own_at_store 3 ?_; refine st_1 HO (.int .i64 _) rfl rfl _ _ rfl (by repeat first | apply Sto.head | apply Sto.tail | apply Patch.put | apply Patch.skip | apply Patch.done) rfl ?_) | (refine own_at_store 30 ?_; refine st_2 HO (.slice _ _ _) rfl rfl _ _ rfl (by repeat first | apply Sto.head | apply Sto.tail | apply Patch.put | apply Patch.skip | apply Patch.done) rfl ?_) | (refine own_at_store 5 ?_; refine st_3a HO (.int .u8 _) rfl rfl _ _ rfl (by repeat first | apply Sto.head | apply Sto.tail | apply Patch.put | apply Patch.skip | apply Patch.done) rfl ?_)); intro WB HOn; clear HO; have HO := HOn; clear HOn))
                  | (with_reducible refine own_at_load 37 ?_; refine wpList_own_elem rfl 37 _ rfl HO _ Try.underlying37 rfl oinfo_3a 1 _ _ xs rfl acL_len (by decide) q _ HX.out rfl _ rfl ?_)
                  | (go_at_call 14; refine (frozen_f _ _ _ _ _ _ _ _ _ _ _ _ _ _ _ _ _ _ _ _ _ _).mono ?_; rintro e wc ⟨rfl, hb⟩; have HOn := HO.below hb; clear HO hb; have HO := HOn; clear HOn)
                  | (go_at_call 9; refine (feed_at _ _ _ _ _ _ _ _ _ _ _ _ _ _ _ _ _ _ A m c ws b o _ _ _ _ _ _ _ HW.out HC.out.1 HC.out.2 HA.out (fun hne => ⟨(HO.rng 0 _ _ _ rfl hne).1, (HO.rng 0 _ _ _ rfl hne).2.1⟩) (by omega)).mono ?_; rintro e wc ⟨g1, cg1, rfl, hc1, hm1, hr1, hb⟩; have HOn := (HO.pushNew hb g1 0 _ (fun _ => hr1)).skip1; clear HO hb; have HO := HOn; clear HOn))
            have HW1 : Hid (((ws ++ [(⟨z0, z1, z2, z3, z4, (come : Int) + (m : Int)⟩ : In)])).length = (m + 1)) := (Lib.hid (by rw [List.length_append, HW.out]; rfl))
            have HC1 : Hid ((m + 1) ≤ cg1 ∧ cg1 ≤ maxLen) := (Lib.hid (And.intro hc1 hm1))
            have HA1 : Hid (0 < (m + 1) → (some (⟨g1, 0, none⟩ : Addr)) = some ⟨g1, 0, none⟩) := (Lib.hid (fun _ => rfl))
            have HF1 : Hid (FedL (ws ++ [(⟨z0, z1, z2, z3, z4, (come : Int) + (m : Int)⟩ : In)]) come) := (Lib.hid (fedL_snoc HF.out HW.out rfl))
            refine (waiting_at _ _ _ _ _ _ _ _ _ _ _ _ _ _ _ _ _ _ (some (⟨g1, 0, none⟩ : Addr)) (m + 1) cg1 (ws ++ [(⟨z0, z1, z2, z3, z4, (come : Int) + (m : Int)⟩ : In)]) g1 0 _ (HW1).out (HC1).out.1 (HC1).out.2 (HA1).out (fun hne => ⟨(HO.rng 0 _ _ _ rfl hne).1, (HO.rng 0 _ _ _ rfl hne).2.1⟩) (by omega)).mono ?_
            rintro e wc ⟨v9, rfl, ho9, hb⟩
            obtain ⟨g9, ⟨A9, c9, rfl, hn9, hm9, hA9⟩, hr9⟩ := own_row ho9 (by decide)
            have HOn := HO.pushNew hb g9 0 _ hr9
            clear HO hb ho9 hr9
            have HO := HOn
            clear HOn
            have hsub : (come : Int) + (m : Int) + 1 - (come : Int) = (m : Int) + 1 := by omega
            by_cases hm0 : 0 < (m + 1)
            · obtain rfl : A9 = some ⟨g9, 0, none⟩ := hA9 hm0
              obtain ⟨x, hx⟩ : ∃ x, ((ws ++ [(⟨z0, z1, z2, z3, z4, (come : Int) + (m : Int)⟩ : In)]))[0]? = some x := ⟨_, List.getElem?_eq_getElem (by rw [(HW1).out]; exact hm0)⟩
              have hxn := (HF1).out 0 x hx
              obtain ⟨v0, v1, v2, v3, v4, v5⟩ := x
              have cw := HO.elemCell inL_len (by decide) 0 _ _ ((ws ++ [(⟨z0, z1, z2, z3, z4, (come : Int) + (m : Int)⟩ : In)])) rfl hx 5 rfl
              dsimp only at cw hxn
              simp only [Nat.zero_mul, Nat.add_zero, Nat.zero_add] at cw hxn
              subst hxn
              have hmi : (0 : Int) < (((m + 1) : Nat) : Int) := by omega
              have hmn : 0 < (m + 1) := hm0
              clear hx hA9
              go_wp2_with fail
              go_roundw
              case rel => exact ⟨q + 1, come, (m + 1), cg1, g1, 0, (some (⟨g1, 0, none⟩ : Addr)), ⟨⟨d0, d1, d2, d3, d4, d5, d6, d7⟩, d8, d9, d10, ⟨d11, d12, d13, d14, d15, d16⟩, d17⟩, (ws ++ [(⟨z0, z1, z2, z3, z4, (come : Int) + (m : Int)⟩ : In)]), by go_num, rfl, (by first | rfl | (congr 1; omega) | (congr 1; push_cast; omega)), by omega, by omega, (Lib.hid (by rw [List.length_append, HW.out]; rfl)), (Lib.hid (And.intro hc1 hm1)), (Lib.hid (fun _ => rfl)), (Lib.hid (fedL_snoc HF.out HW.out rfl)), Lib.hid ((HO.tailR).takeL 1)⟩
              case measure => simp [intOf] <;> omega
            · exact absurd (Nat.succ_pos m) hm0
        · have hr8 : e0.tmod 8 = 6 := h8
          clear h8
          as_aux_lemma =>
            cases d9
            · rcases Nat.eq_zero_or_pos m with hm | hm
              · subst hm
                go_wp2_with (first
                  | (with_reducible ((first | (refine own_at_box 32 ?_; refine ob_0 HO _ rfl ?_) | (refine own_at_alloc 32 ?_; refine oa_0 HO ?_) | (refine own_at_box 27 ?_; refine ob_1 HO _ rfl ?_) | (refine own_at_alloc 27 ?_; refine oa_1 HO ?_) | (refine own_at_box 29 ?_; refine ob_2 HO _ rfl ?_) | (refine own_at_alloc 29 ?_; refine oa_2 HO ?_) | (refine own_at_box 37 ?_; refine ob_3a HO _ rfl ?_) | (refine own_at_alloc 37 ?_; refine oa_3a HO ?_) | (refine own_at_box 4 ?_; refine sb_0 HO (.bool _) rfl rfl ?_) | (refine own_at_alloc 4 ?_; refine sa_0 HO ?_) | (refine own_at_box 3 ?_; refine sb_1 HO (.int .i64 _) rfl rfl ?_) | (refine own_at_alloc 3 ?_; refine sa_1 HO ?_) | (refine own_at_box 30 ?_; refine sb_2 HO (.slice _ _ _) rfl rfl ?_) | (refine own_at_alloc 30 ?_; refine sa_2 HO ?_) | (refine own_at_box 5 ?_; refine sb_3a HO (.int .u8 _) rfl rfl ?_) | (refine own_at_alloc 5 ?_; refine sa_3a HO ?_)); intro nB WB HOn; (try simp only [List.cons_append, List.nil_append] at HOn); clear HO; have HO := HOn; clear HOn))
                  | (with_reducible (first | (refine own_at_load 32 ?_; refine op_0 HO rfl _ _ _ _ rfl (by repeat first | apply Has.head | apply Has.tail) (by repeat first | apply Part.done | apply Part.take | apply Part.skip) ?_) | (refine own_at_load 27 ?_; refine op_1 HO rfl _ _ _ _ rfl (by repeat first | apply Has.head | apply Has.tail) (by repeat first | apply Part.done | apply Part.take | apply Part.skip) ?_) | (refine own_at_load 29 ?_; refine op_2 HO rfl _ _ _ _ rfl (by repeat first | apply Has.head | apply Has.tail) (by repeat first | apply Part.done | apply Part.take | apply Part.skip) ?_) | (refine own_at_load 37 ?_; refine op_3a HO rfl _ _ _ _ rfl (by repeat first | apply Has.head | apply Has.tail) (by repeat first | apply Part.done | apply Part.take | apply Part.skip) ?_) | (refine own_at_load 4 ?_; refine sl_0 HO rfl _ _ _ _ rfl (by repeat first | apply Has.head | apply Has.tail) rfl ?_) | (refine own_at_load 3 ?_; refine sl_1 HO rfl _ _ _ _ rfl (by repeat first | apply Has.head | apply Has.tail) rfl ?_) | (refine own_at_load 30 ?_; refine sl_2 HO rfl _ _ _ _ rfl (by repeat first | apply Has.head | apply Has.tail) rfl ?_) | (refine own_at_load 5 ?_; refine sl_3a HO rfl _ _ _ _ rfl (by repeat first | apply Has.head | apply Has.tail) rfl ?_)))
                  | (with_reducible ((first | (refine own_at_store 32 ?_; refine os_0 HO _ rfl rfl _ _ rfl (by repeat first | apply Sto.head | apply Sto.tail | apply Patch.put | apply Patch.skip | apply Patch.done) rfl ?_) | (refine own_at_store 27 ?_; refine os_1 HO _ rfl rfl _ _ rfl (by repeat first | apply Sto.head | apply Sto.tail | apply Patch.put | apply Patch.skip | apply Patch.done) rfl ?_) | (refine own_at_store 29 ?_; refine os_2 HO _ rfl rfl _ _ rfl (by repeat first | apply Sto.head | apply Sto.tail | apply Patch.put | apply Patch.skip | apply Patch.done) rfl ?_) | (refine own_at_store 37 ?_; refine os_3a HO _ rfl rfl _ _ rfl (by repeat first | apply Sto.head | apply Sto.tail | apply Patch.put | apply Patch.skip | apply Patch.done) rfl ?_) | (refine own_at_store 4 ?_; refine st_0 HO (.bool _) rfl rfl _ _ rfl (by repeat first | apply Sto.head | apply Sto.tail | apply Patch.put | apply Patch.skip | apply Patch.done) rfl ?_) | (refine own_at_store 3 ?_; refine st_1 HO (.int .i64 _) rfl rfl _ _ rfl (by repeat first | apply Sto.head | apply Sto.tail | apply Patch.put | apply Patch.skip | apply Patch.done) rfl ?_) | (refine own_at_store 30 ?_; refine st_2 HO (.slice _ _ _) rfl rfl _ _ rfl (by repeat first | apply Sto.head | apply Sto.tail | apply Patch.put | apply Patch.skip | apply Patch.done) rfl ?_) | (refine own_at_store 5 ?_; refine st_3a HO (.int .u8 _) rfl rfl _ _ rfl (by repeat first | apply Sto.head | apply Sto.tail | apply Patch.put | apply Patch.skip | apply Patch.done) rfl ?_)); intro WB HOn; clear HO; have HO := HOn; clear HOn))
                  | (with_reducible refine own_at_load 37 ?_; refine wpList_own_elem rfl 37 _ rfl HO _ Try.underlying37 rfl oinfo_3a 1 _ _ xs rfl acL_len (by decide) q _ HX.out rfl _ rfl ?_)
                  | (go_at_call 14; refine (frozen_f _ _ _ _ _ _ _ _ _ _ _ _ _ _ _ _ _ _ _ _ _ _).mono ?_; rintro e wc ⟨rfl, hb⟩; have HOn := HO.below hb; clear HO hb; have HO := HOn; clear HOn)
                  | (go_at_call 18; refine (next_none _ _ _ _ _ _ _ _ _ _ _ _ _ _ _ _ _ _ _ _).mono ?_; rintro e wc ⟨rfl, hb⟩; have HOn := HO.below hb; clear HO hb; have HO := HOn; clear HOn))
                refine (waiting_at _ _ _ _ _ _ _ _ _ _ _ _ _ _ _ _ _ _ A 0 c ws b o _ (HW).out (HC).out.1 (HC).out.2 (HA).out (fun hne => ⟨(HO.rng 0 _ _ _ rfl hne).1, (HO.rng 0 _ _ _ rfl hne).2.1⟩) (by omega)).mono ?_
                rintro e wc ⟨v9, rfl, ho9, hb⟩
                obtain ⟨g9, ⟨A9, c9, rfl, hn9, hm9, hA9⟩, hr9⟩ := own_row ho9 (by decide)
                have HOn := HO.pushNew hb g9 0 _ hr9
                clear HO hb ho9 hr9
                have HO := HOn
                clear HOn
                have hsub : (come : Int) + 0 - (come : Int) = 0 := by omega
                by_cases hm0 : 0 < 0
                · obtain rfl : A9 = some ⟨g9, 0, none⟩ := hA9 hm0
                  obtain ⟨x, hx⟩ : ∃ x, (ws)[0]? = some x := ⟨_, List.getElem?_eq_getElem (by rw [(HW).out]; exact hm0)⟩
                  have hxn := (HF).out 0 x hx
                  obtain ⟨v0, v1, v2, v3, v4, v5⟩ := x
                  have cw := HO.elemCell inL_len (by decide) 0 _ _ (ws) rfl hx 5 rfl
                  dsimp only at cw hxn
                  simp only [Nat.zero_mul, Nat.add_zero, Nat.zero_add] at cw hxn
                  subst hxn
                  have hmi : (0 : Int) < ((0 : Nat) : Int) := by omega
                  have hmn : 0 < 0 := hm0
                  clear hx hA9
                  go_wp2_with fail
                  go_roundw
                  case rel => exact ⟨q + 1, come, 0, c, b, o, A, ⟨⟨d0, d1, d2, d3, d4, d5, d6, d7⟩, d8, false, d10, ⟨d11, d12, d13, d14, d15, d16⟩, d17⟩, ws, by go_num, rfl, rfl, by omega, by omega, HW, HC, HA, HF, Lib.hid ((HO.tailR).takeL 1)⟩
                  case measure => simp [intOf] <;> omega
                · have hmi : ¬ (0 : Int) < ((0 : Nat) : Int) := by omega
                  clear hA9
                  go_wp2_with fail
                  go_roundw
                  case rel => exact ⟨q + 1, come, 0, c, b, o, A, ⟨⟨d0, d1, d2, d3, d4, d5, d6, d7⟩, d8, false, d10, ⟨d11, d12, d13, d14, d15, d16⟩, d17⟩, ws, by go_num, rfl, rfl, by omega, by omega, HW, HC, HA, HF, Lib.hid ((HO.tailR).takeL 1)⟩
                  case measure => simp [intOf] <;> omega
              · obtain ⟨m, rfl⟩ : ∃ m', m = m' + 1 := ⟨m - 1, by omega⟩
                obtain rfl : A = some ⟨b, o, none⟩ := HA.out (by omega)
                obtain ⟨x, hx⟩ : ∃ x, ws[0]? = some x := ⟨_, List.getElem?_eq_getElem (by rw [HW.out]; omega)⟩
                have hxn := HF.out 0 x hx
                obtain ⟨v0, v1, v2, v3, v4, v5⟩ := x
                dsimp only at hxn
                rw [Nat.add_zero] at hxn
                subst hxn
                have HX0 := Lib.hid hx
                obtain ⟨f, hf⟩ : ∃ f, (d10 && pressB v0) = f := ⟨_, rfl⟩
                obtain ⟨s, hs⟩ : ∃ s, (d10 && !pressB v0) = s := ⟨_, rfl⟩
                have HFS := Lib.hid (And.intro hf hs)
                clear hx hf hs
                go_wp2_with (first
                  | (with_reducible ((first | (refine own_at_box 32 ?_; refine ob_0 HO _ rfl ?_) | (refine own_at_alloc 32 ?_; refine oa_0 HO ?_) | (refine own_at_box 27 ?_; refine ob_1 HO _ rfl ?_) | (refine own_at_alloc 27 ?_; refine oa_1 HO ?_) | (refine own_at_box 29 ?_; refine ob_2 HO _ rfl ?_) | (refine own_at_alloc 29 ?_; refine oa_2 HO ?_) | (refine own_at_box 37 ?_; refine ob_3a HO _ rfl ?_) | (refine own_at_alloc 37 ?_; refine oa_3a HO ?_) | (refine own_at_box 4 ?_; refine sb_0 HO (.bool _) rfl rfl ?_) | (refine own_at_alloc 4 ?_; refine sa_0 HO ?_) | (refine own_at_box 3 ?_; refine sb_1 HO (.int .i64 _) rfl rfl ?_) | (refine own_at_alloc 3 ?_; refine sa_1 HO ?_) | (refine own_at_box 30 ?_; refine sb_2 HO (.slice _ _ _) rfl rfl ?_) | (refine own_at_alloc 30 ?_; refine sa_2 HO ?_) | (refine own_at_box 5 ?_; refine sb_3a HO (.int .u8 _) rfl rfl ?_) | (refine own_at_alloc 5 ?_; refine sa_3a HO ?_)); intro nB WB HOn; (try simp only [List.cons_append, List.nil_append] at HOn); clear HO; have HO := HOn; clear HOn))
                  | (with_reducible (first | (refine own_at_load 32 ?_; refine op_0 HO rfl _ _ _ _ rfl (by repeat first | apply Has.head | apply Has.tail) (by repeat first | apply Part.done | apply Part.take | apply Part.skip) ?_) | (refine own_at_load 27 ?_; refine op_1 HO rfl _ _ _ _ rfl (by repeat first | apply Has.head | apply Has.tail) (by repeat first | apply Part.done | apply Part.take | apply Part.skip) ?_) | (refine own_at_load 29 ?_; refine op_2 HO rfl _ _ _ _ rfl (by repeat first | apply Has.head | apply Has.tail) (by repeat first | apply Part.done | apply Part.take | apply Part.skip) ?_) | (refine own_at_load 37 ?_; refine op_3a HO rfl _ _ _ _ rfl (by repeat first | apply Has.head | apply Has.tail) (by repeat first | apply Part.done | apply Part.take | apply Part.skip) ?_) | (refine own_at_load 4 ?_; refine sl_0 HO rfl _ _ _ _ rfl (by repeat first | apply Has.head | apply Has.tail) rfl ?_) | (refine own_at_load 3 ?_; refine sl_1 HO rfl _ _ _ _ rfl (by repeat first | apply Has.head | apply Has.tail) rfl ?_) | (refine own_at_load 30 ?_; refine sl_2 HO rfl _ _ _ _ rfl (by repeat first | apply Has.head | apply Has.tail) rfl ?_) | (refine own_at_load 5 ?_; refine sl_3a HO rfl _ _ _ _ rfl (by repeat first | apply Has.head | apply Has.tail) rfl ?_)))
                  | (with_reducible ((first | (refine own_at_store 32 ?_; refine os_0 HO _ rfl rfl _ _ rfl (by repeat first | apply Sto.head | apply Sto.tail | apply Patch.put | apply Patch.skip | apply Patch.done) rfl ?_) | (refine own_at_store 27 ?_; refine os_1 HO _ rfl rfl _ _ rfl (by repeat first | apply Sto.head | apply Sto.tail | apply Patch.put | apply Patch.skip | apply Patch.done) rfl ?_) | (refine own_at_store 29 ?_; refine os_2 HO _ rfl rfl _ _ rfl (by repeat first | apply Sto.head | apply Sto.tail | apply Patch.put | apply Patch.skip | apply Patch.done) rfl ?_) | (refine own_at_store 37 ?_; refine os_3a HO _ rfl rfl _ _ rfl (by repeat first | apply Sto.head | apply Sto.tail | apply Patch.put | apply Patch.skip | apply Patch.done) rfl ?_) | (refine own_at_store 4 ?_; refine st_0 HO (.bool _) rfl rfl _ _ rfl (by repeat first | apply Sto.head | apply Sto.tail | apply Patch.put | apply Patch.skip | apply Patch.done) rfl ?_) | (refine own_at_store 3 ?_; refine st_1 HO (.int .i64 _) rfl rfl _ _ rfl (by repeat first | apply Sto.head | apply Sto.tail | apply Patch.put | apply Patch.skip | apply Patch.done) rfl ?_) | (refine own_at_store 30 ?_; refine st_2 HO (.slice _ _ _) rfl rfl _ _ rfl (by repeat first | apply Sto.head | apply Sto.tail | apply Patch.put | apply Patch.skip | apply Patch.done) rfl ?_) | (refine own_at_store 5 ?_; refine st_3a HO (.int .u8 _) rfl rfl _ _ rfl (by repeat first | apply Sto.head | apply Sto.tail | apply Patch.put | apply Patch.skip | apply Patch.done) rfl ?_)); intro WB HOn; clear HO; have HO := HOn; clear HOn))
                  | (with_reducible refine own_at_load 37 ?_; refine wpList_own_elem rfl 37 _ rfl HO _ Try.underlying37 rfl oinfo_3a 1 _ _ xs rfl acL_len (by decide) q _ HX.out rfl _ rfl ?_)
                  | (go_at_call 14; refine (frozen_f _ _ _ _ _ _ _ _ _ _ _ _ _ _ _ _ _ _ _ _ _ _).mono ?_; rintro e wc ⟨rfl, hb⟩; have HOn := HO.below hb; clear HO hb; have HO := HOn; clear HOn)
                  | (go_at_call 18; refine (next_at _ _ _ _ _ _ _ _ _ _ _ _ _ _ _ _ _ (m + 1) c ws b o _ _ _ _ _ _ _ HW.out HC.out.1 HX0.out (fun hne => ⟨(HO.rng 0 _ _ _ rfl hne).1, (HO.rng 0 _ _ _ rfl hne).2.1⟩) (by omega) f s (tailA c b o) HFS.out.1 HFS.out.2 rfl).mono ?_; rintro e wc ⟨rfl, hb⟩; have HOn := (HO.below hb).dropHead inL_len (by decide) 1 (o + 6) (ws.drop 1) (by omega) rfl; clear HO hb; have HO := HOn; clear HOn))
                have HW1 : Hid (((ws.drop 1)).length = m) := (Lib.hid (by rw [List.length_drop, HW.out]; rfl))
                have HC1 : Hid (m ≤ (c - 1) ∧ (c - 1) ≤ maxLen) := (Lib.hid (by have := HC.out; omega))
                have HA1 : Hid (0 < m → (tailA c b o) = some ⟨b, (o + 6), none⟩) := (Lib.hid (fun h => by have := HC.out; unfold tailA; rw [if_neg (by omega)]))
                have HF1 : Hid (FedL (ws.drop 1) (come + 1)) := (Lib.hid (fedL_tail HF.out))
                refine (waiting_at _ _ _ _ _ _ _ _ _ _ _ _ _ _ _ _ _ _ (tailA c b o) m (c - 1) (ws.drop 1) b (o + 6) _ (HW1).out (HC1).out.1 (HC1).out.2 (HA1).out (fun hne => ⟨(HO.rng 0 _ _ _ rfl hne).1, (HO.rng 0 _ _ _ rfl hne).2.1⟩) (by omega)).mono ?_
                rintro e wc ⟨v9, rfl, ho9, hb⟩
                obtain ⟨g9, ⟨A9, c9, rfl, hn9, hm9, hA9⟩, hr9⟩ := own_row ho9 (by decide)
                have HOn := HO.pushNew hb g9 0 _ hr9
                clear HO hb ho9 hr9
                have HO := HOn
                clear HOn
                have hsub : (come : Int) + ((m : Int) + 1) - ((come : Int) + 1) = (m : Int) := by omega
                by_cases hm0 : 0 < m
                · obtain rfl : A9 = some ⟨g9, 0, none⟩ := hA9 hm0
                  obtain ⟨x, hx⟩ : ∃ x, ((ws.drop 1))[0]? = some x := ⟨_, List.getElem?_eq_getElem (by rw [(HW1).out]; exact hm0)⟩
                  have hxn := (HF1).out 0 x hx
                  obtain ⟨v0, v1, v2, v3, v4, v5⟩ := x
                  have cw := HO.elemCell inL_len (by decide) 0 _ _ ((ws.drop 1)) rfl hx 5 rfl
                  dsimp only at cw hxn
                  simp only [Nat.zero_mul, Nat.add_zero, Nat.zero_add] at cw hxn
                  subst hxn
                  have hmi : (0 : Int) < ((m : Nat) : Int) := by omega
                  have hmn : 0 < m := hm0
                  clear hx hA9
                  go_wp2_with fail
                  go_roundw
                  case rel => exact ⟨q + 1, (come + 1), m, (c - 1), b, (o + 6), (tailA c b o), ⟨⟨d0, d1, d2, d3, d4, d5, d6, d7⟩, d8, f, s, ⟨d11, d12, d13, d14, d15, d16⟩, d17⟩, (ws.drop 1), by go_num, (by first | rfl | (congr 1; omega) | (congr 1; push_cast; omega)), (by first | rfl | (congr 1; omega) | (congr 1; push_cast; omega)), by omega, by omega, (Lib.hid (by rw [List.length_drop, HW.out]; rfl)), (Lib.hid (by have := HC.out; omega)), (Lib.hid (fun h => by have := HC.out; unfold tailA; rw [if_neg (by omega)])), (Lib.hid (fedL_tail HF.out)), Lib.hid ((HO.tailR).takeL 1)⟩
                  case measure => simp [intOf] <;> omega
                · have hmi : ¬ (0 : Int) < ((m : Nat) : Int) := by omega
                  clear hA9
                  go_wp2_with fail
                  go_roundw
                  case rel => exact ⟨q + 1, (come + 1), m, (c - 1), b, (o + 6), (tailA c b o), ⟨⟨d0, d1, d2, d3, d4, d5, d6, d7⟩, d8, f, s, ⟨d11, d12, d13, d14, d15, d16⟩, d17⟩, (ws.drop 1), by go_num, (by first | rfl | (congr 1; omega) | (congr 1; push_cast; omega)), (by first | rfl | (congr 1; omega) | (congr 1; push_cast; omega)), by omega, by omega, (Lib.hid (by rw [List.length_drop, HW.out]; rfl)), (Lib.hid (by have := HC.out; omega)), (Lib.hid (fun h => by have := HC.out; unfold tailA; rw [if_neg (by omega)])), (Lib.hid (fedL_tail HF.out)), Lib.hid ((HO.tailR).takeL 1)⟩
                  case measure => simp [intOf] <;> omega
            · go_wp2_with (first
                  | (with_reducible ((first | (refine own_at_box 32 ?_; refine ob_0 HO _ rfl ?_) | (refine own_at_alloc 32 ?_; refine oa_0 HO ?_) | (refine own_at_box 27 ?_; refine ob_1 HO _ rfl ?_) | (refine own_at_alloc 27 ?_; refine oa_1 HO ?_) | (refine own_at_box 29 ?_; refine ob_2 HO _ rfl ?_) | (refine own_at_alloc 29 ?_; refine oa_2 HO ?_) | (refine own_at_box 37 ?_; refine ob_3a HO _ rfl ?_) | (refine own_at_alloc 37 ?_; refine oa_3a HO ?_) | (refine own_at_box 4 ?_; refine sb_0 HO (.bool _) rfl rfl ?_) | (refine own_at_alloc 4 ?_; refine sa_0 HO ?_) | (refine own_at_box 3 ?_; refine sb_1 HO (.int .i64 _) rfl rfl ?_) | (refine own_at_alloc 3 ?_; refine sa_1 HO ?_) | (refine own_at_box 30 ?_; refine sb_2 HO (.slice _ _ _) rfl rfl ?_) | (refine own_at_alloc 30 ?_; refine sa_2 HO ?_) | (refine own_at_box 5 ?_; refine sb_3a HO (.int .u8 _) rfl rfl ?_) | (refine own_at_alloc 5 ?_; refine sa_3a HO ?_)); intro nB WB HOn; (try simp only [List.cons_append, List.nil_append] at HOn); clear HO; have HO := HOn; clear HOn))
                  | (with_reducible (first | (refine own_at_load 32 ?_; refine op_0 HO rfl _ _ _ _ rfl (by repeat first | apply Has.head | apply Has.tail) (by repeat first | apply Part.done | apply Part.take | apply Part.skip) ?_) | (refine own_at_load 27 ?_; refine op_1 HO rfl _ _ _ _ rfl (by repeat first | apply Has.head | apply Has.tail) (by repeat first | apply Part.done | apply Part.take | apply Part.skip) ?_) | (refine own_at_load 29 ?_; refine op_2 HO rfl _ _ _ _ rfl (by repeat first | apply Has.head | apply Has.tail) (by repeat first | apply Part.done | apply Part.take | apply Part.skip) ?_) | (refine own_at_load 37 ?_; refine op_3a HO rfl _ _ _ _ rfl (by repeat first | apply Has.head | apply Has.tail) (by repeat first | apply Part.done | apply Part.take | apply Part.skip) ?_) | (refine own_at_load 4 ?_; refine sl_0 HO rfl _ _ _ _ rfl (by repeat first | apply Has.head | apply Has.tail) rfl ?_) | (refine own_at_load 3 ?_; refine sl_1 HO rfl _ _ _ _ rfl (by repeat first | apply Has.head | apply Has.tail) rfl ?_) | (refine own_at_load 30 ?_; refine sl_2 HO rfl _ _ _ _ rfl (by repeat first | apply Has.head | apply Has.tail) rfl ?_) | (refine own_at_load 5 ?_; refine sl_3a HO rfl _ _ _ _ rfl (by repeat first | apply Has.head | apply Has.tail) rfl ?_)))
                  | (with_reducible ((first | (refine own_at_store 32 ?_; refine os_0 HO _ rfl rfl _ _ rfl (by repeat first | apply Sto.head | apply Sto.tail | apply Patch.put | apply Patch.skip | apply Patch.done) rfl ?_) | (refine own_at_store 27 ?_; refine os_1 HO _ rfl rfl _ _ rfl (by repeat first | apply Sto.head | apply Sto.tail | apply Patch.put | apply Patch.skip | apply Patch.done) rfl ?_) | (refine own_at_store 29 ?_; refine os_2 HO _ rfl rfl _ _ rfl (by repeat first | apply Sto.head | apply Sto.tail | apply Patch.put | apply Patch.skip | apply Patch.done) rfl ?_) | (refine own_at_store 37 ?_; refine os_3a HO _ rfl rfl _ _ rfl (by repeat first | apply Sto.head | apply Sto.tail | apply Patch.put | apply Patch.skip | apply Patch.done) rfl ?_) | (refine own_at_store 4 ?_; refine st_0 HO (.bool _) rfl rfl _ _ rfl (by repeat first | apply Sto.head | apply Sto.tail | apply Patch.put | apply Patch.skip | apply Patch.done) rfl ?_) | (refine own_at_store 3 ?_; refine st_1 HO (.int .i64 _) rfl rfl _ _ rfl (by repeat first | apply Sto.head | apply Sto.tail | apply Patch.put | apply Patch.skip | apply Patch.done) rfl ?_) | (refine own_at_store 30 ?_; refine st_2 HO (.slice _ _ _) rfl rfl _ _ rfl (by repeat first | apply Sto.head | apply Sto.tail | apply Patch.put | apply Patch.skip | apply Patch.done) rfl ?_) | (refine own_at_store 5 ?_; refine st_3a HO (.int .u8 _) rfl rfl _ _ rfl (by repeat first | apply Sto.head | apply Sto.tail | apply Patch.put | apply Patch.skip | apply Patch.done) rfl ?_)); intro WB HOn; clear HO; have HO := HOn; clear HOn))
                  | (with_reducible refine own_at_load 37 ?_; refine wpList_own_elem rfl 37 _ rfl HO _ Try.underlying37 rfl oinfo_3a 1 _ _ xs rfl acL_len (by decide) q _ HX.out rfl _ rfl ?_)
                  | (go_at_call 14; refine (frozen_f _ _ _ _ _ _ _ _ _ _ _ _ _ _ _ _ _ _ _ _ _ _).mono ?_; rintro e wc ⟨rfl, hb⟩; have HOn := HO.below hb; clear HO hb; have HO := HOn; clear HOn)
                  | (go_at_call 18; refine (next_frozen _ _ _ _ _ _ _ _ _ _ _ _ _ _ _ _ _ _ _ _ _).mono ?_; rintro e wc ⟨rfl, hb⟩; have HOn := HO.below hb; clear HO hb; have HO := HOn; clear HOn))
              refine (waiting_at _ _ _ _ _ _ _ _ _ _ _ _ _ _ _ _ _ _ A m c ws b o _ (HW).out (HC).out.1 (HC).out.2 (HA).out (fun hne => ⟨(HO.rng 0 _ _ _ rfl hne).1, (HO.rng 0 _ _ _ rfl hne).2.1⟩) (by omega)).mono ?_
              rintro e wc ⟨v9, rfl, ho9, hb⟩
              obtain ⟨g9, ⟨A9, c9, rfl, hn9, hm9, hA9⟩, hr9⟩ := own_row ho9 (by decide)
              have HOn := HO.pushNew hb g9 0 _ hr9
              clear HO hb ho9 hr9
              have HO := HOn
              clear HOn
              have hsub : (come : Int) + (m : Int) - (come : Int) = (m : Int) := by omega
              by_cases hm0 : 0 < m
              · obtain rfl : A9 = some ⟨g9, 0, none⟩ := hA9 hm0
                obtain ⟨x, hx⟩ : ∃ x, (ws)[0]? = some x := ⟨_, List.getElem?_eq_getElem (by rw [(HW).out]; exact hm0)⟩
                have hxn := (HF).out 0 x hx
                obtain ⟨v0, v1, v2, v3, v4, v5⟩ := x
                have cw := HO.elemCell inL_len (by decide) 0 _ _ (ws) rfl hx 5 rfl
                dsimp only at cw hxn
                simp only [Nat.zero_mul, Nat.add_zero, Nat.zero_add] at cw hxn
                subst hxn
                have hmi : (0 : Int) < ((m : Nat) : Int) := by omega
                have hmn : 0 < m := hm0
                clear hx hA9
                go_wp2_with fail
                go_roundw
                case rel => exact ⟨q + 1, come, m, c, b, o, A, ⟨⟨d0, d1, d2, d3, d4, d5, d6, d7⟩, d8, true, d10, ⟨d11, d12, d13, d14, d15, d16⟩, d17⟩, ws, by go_num, rfl, rfl, by omega, by omega, HW, HC, HA, HF, Lib.hid ((HO.tailR).takeL 1)⟩
                case measure => simp [intOf] <;> omega
              · have hmi : ¬ (0 : Int) < ((m : Nat) : Int) := by omega
                clear hA9
                go_wp2_with fail
                go_roundw
                case rel => exact ⟨q + 1, come, m, c, b, o, A, ⟨⟨d0, d1, d2, d3, d4, d5, d6, d7⟩, d8, true, d10, ⟨d11, d12, d13, d14, d15, d16⟩, d17⟩, ws, by go_num, rfl, rfl, by omega, by omega, HW, HC, HA, HF, Lib.hid ((HO.tailR).takeL 1)⟩
                case measure => simp [intOf] <;> omega
        · have hr8 : e0.tmod 8 = 7 := h8
          clear h8
          as_aux_lemma =>
            cases d9
            · skip
              go_wp2_with (first
                    | (with_reducible ((first | (refine own_at_box 32 ?_; refine ob_0 HO _ rfl ?_) | (refine own_at_alloc 32 ?_; refine oa_0 HO ?_) | (refine own_at_box 27 ?_; refine ob_1 HO _ rfl ?_) | (refine own_at_alloc 27 ?_; refine oa_1 HO ?_) | (refine own_at_box 29 ?_; refine ob_2 HO _ rfl ?_) | (refine own_at_alloc 29 ?_; refine oa_2 HO ?_) | (refine own_at_box 37 ?_; refine ob_3a HO _ rfl ?_) | (refine own_at_alloc 37 ?_; refine oa_3a HO ?_) | (refine own_at_box 4 ?_; refine sb_0 HO (.bool _) rfl rfl ?_) | (refine own_at_alloc 4 ?_; refine sa_0 HO ?_) | (refine own_at_box 3 ?_; refine sb_1 HO (.int .i64 _) rfl rfl ?_) | (refine own_at_alloc 3 ?_; refine sa_1 HO ?_) | (refine own_at_box 30 ?_; refine sb_2 HO (.slice _ _ _) rfl rfl ?_) | (refine own_at_alloc 30 ?_; refine sa_2 HO ?_) | (refine own_at_box 5 ?_; refine sb_3a HO (.int .u8 _) rfl rfl ?_) | (refine own_at_alloc 5 ?_; refine sa_3a HO ?_)); intro nB WB HOn; (try simp only [List.cons_append, List.nil_append] at HOn); clear HO; have HO := HOn; clear HOn))
                    | (with_reducible (first | (refine own_at_load 32 ?_; refine op_0 HO rfl _ _ _ _ rfl (by repeat first | apply Has.head | apply Has.tail) (by repeat first | apply Part.done | apply Part.take | apply Part.skip) ?_) | (refine own_at_load 27 ?_; refine op_1 HO rfl _ _ _ _ rfl (by repeat first | apply Has.head | apply Has.tail) (by repeat first | apply Part.done | apply Part.take | apply Part.skip) ?_) | (refine own_at_load 29 ?_; refine op_2 HO rfl _ _ _ _ rfl (by repeat first | apply Has.head | apply Has.tail) (by repeat first | apply Part.done | apply Part.take | apply Part.skip) ?_) | (refine own_at_load 37 ?_; refine op_3a HO rfl _ _ _ _ rfl (by repeat first | apply Has.head | apply Has.tail) (by repeat first | apply Part.done | apply Part.take | apply Part.skip) ?_) | (refine own_at_load 4 ?_; refine sl_0 HO rfl _ _ _ _ rfl (by repeat first | apply Has.head | apply Has.tail) rfl ?_) | (refine own_at_load 3 ?_; refine sl_1 HO rfl _ _ _ _ rfl (by repeat first | apply Has.head | apply Has.tail) rfl ?_) | (refine own_at_load 30 ?_; refine sl_2 HO rfl _ _ _ _ rfl (by repeat first | apply Has.head | apply Has.tail) rfl ?_) | (refine own_at_load 5 ?_; refine sl_3a HO rfl _ _ _ _ rfl (by repeat first | apply Has.head | apply Has.tail) rfl ?_)))
                    | (with_reducible ((first | (refine own_at_store 32 ?_; refine os_0 HO _ rfl rfl _ _ rfl (by repeat first | apply Sto.head | apply Sto.tail | apply Patch.put | apply Patch.skip | apply Patch.done) rfl ?_) | (refine own_at_store 27 ?_; refine os_1 HO _ rfl rfl _ _ rfl (by repeat first | apply Sto.head | apply Sto.tail | apply Patch.put | apply Patch.skip | apply Patch.done) rfl ?_) | (refine own_at_store 29 ?_; refine os_2 HO _ rfl rfl _ _ rfl (by repeat first | apply Sto.head | apply Sto.tail | apply Patch.put | apply Patch.skip | apply Patch.done) rfl ?_) | (refine own_at_store 37 ?_; refine os_3a HO _ rfl rfl _ _ rfl (by repeat first | apply Sto.head | apply Sto.tail | apply Patch.put | apply Patch.skip | apply Patch.done) rfl ?_) | (refine own_at_store 4 ?_; refine st_0 HO (.bool _) rfl rfl _ _ rfl (by repeat first | apply Sto.head | apply Sto.tail | apply Patch.put | apply Patch.skip | apply Patch.done) rfl ?_) | (refine own_at_store 3 ?_; refine st_1 HO (.int .i64 _) rfl rfl _ _ rfl (by repeat first | apply Sto.head | apply Sto.tail | apply Patch.put | apply Patch.skip | apply Patch.done) rfl ?_) | (refine own_at_store 30 ?_; refine st_2 HO (.slice _ _ _) rfl rfl _ _ rfl (by repeat first | apply Sto.head | apply Sto.tail | apply Patch.put | apply Patch.skip | apply Patch.done) rfl ?_) | (refine own_at_store 5 ?_; refine st_3a HO (.int .u8 _) rfl rfl _ _ rfl (by repeat first | apply Sto.head | apply Sto.tail | apply Patch.put | apply Patch.skip | apply Patch.done) rfl ?_)); intro WB HOn; clear HO; have HO := HOn; clear HOn))
                    | (with_reducible refine own_at_load 37 ?_; refine wpList_own_elem rfl 37 _ rfl HO _ Try.underlying37 rfl oinfo_3a 1 _ _ xs rfl acL_len (by decide) q _ HX.out rfl _ rfl ?_)
                    | (go_at_call 14; refine (frozen_f _ _ _ _ _ _ _ _ _ _ _ _ _ _ _ _ _ _ _ _ _ _).mono ?_; rintro e wc ⟨rfl, hb⟩; have HOn := HO.below hb; clear HO hb; have HO := HOn; clear HOn)
                    | (go_at_call 11; refine (allow_no_frozen _ _ _ _ _ _ _ _ _ _ _ _ _ _ _ _ _ _ _ _ _ _).mono ?_; rintro e wc ⟨rfl, hb⟩; have HOn := HO.below hb; clear HO hb; have HO := HOn; clear HOn))
              refine (waiting_at _ _ _ _ _ _ _ _ _ _ _ _ _ _ _ _ _ _ A m c ws b o _ (HW).out (HC).out.1 (HC).out.2 (HA).out (fun hne => ⟨(HO.rng 0 _ _ _ rfl hne).1, (HO.rng 0 _ _ _ rfl hne).2.1⟩) (by omega)).mono ?_
              rintro e wc ⟨v9, rfl, ho9, hb⟩
              obtain ⟨g9, ⟨A9, c9, rfl, hn9, hm9, hA9⟩, hr9⟩ := own_row ho9 (by decide)
              have HOn := HO.pushNew hb g9 0 _ hr9
              clear HO hb ho9 hr9
              have HO := HOn
              clear HOn
              have hsub : (come : Int) + (m : Int) - (come : Int) = (m : Int) := by omega
              by_cases hm0 : 0 < m
              · obtain rfl : A9 = some ⟨g9, 0, none⟩ := hA9 hm0
                obtain ⟨x, hx⟩ : ∃ x, (ws)[0]? = some x := ⟨_, List.getElem?_eq_getElem (by rw [(HW).out]; exact hm0)⟩
                have hxn := (HF).out 0 x hx
                obtain ⟨v0, v1, v2, v3, v4, v5⟩ := x
                have cw := HO.elemCell inL_len (by decide) 0 _ _ (ws) rfl hx 5 rfl
                dsimp only at cw hxn
                simp only [Nat.zero_mul, Nat.add_zero, Nat.zero_add] at cw hxn
                subst hxn
                have hmi : (0 : Int) < ((m : Nat) : Int) := by omega
                have hmn : 0 < m := hm0
                clear hx hA9
                go_wp2_with fail
                go_roundw
                case rel => exact ⟨q + 1, come, m, c, b, o, A, ⟨⟨d0, d1, d2, d3, d4, d5, d6, d7⟩, d8, false, d10, ⟨d11, d12, d13, d14, d15, d16⟩, d17⟩, ws, by go_num, rfl, rfl, by omega, by omega, HW, HC, HA, HF, Lib.hid ((HO.tailR).takeL 1)⟩
                case measure => simp [intOf] <;> omega
              · have hmi : ¬ (0 : Int) < ((m : Nat) : Int) := by omega
                clear hA9
                go_wp2_with fail
                go_roundw
                case rel => exact ⟨q + 1, come, m, c, b, o, A, ⟨⟨d0, d1, d2, d3, d4, d5, d6, d7⟩, d8, false, d10, ⟨d11, d12, d13, d14, d15, d16⟩, d17⟩, ws, by go_num, rfl, rfl, by omega, by omega, HW, HC, HA, HF, Lib.hid ((HO.tailR).takeL 1)⟩
                case measure => simp [intOf] <;> omega
            · by_cases hneg : y9 < 0
              · skip
                go_wp2_with (first
                      | (with_reducible ((first | (refine own_at_box 32 ?_; refine ob_0 HO _ rfl ?_) | (refine own_at_alloc 32 ?_; refine oa_0 HO ?_) | (refine own_at_box 27 ?_; refine ob_1 HO _ rfl ?_) | (refine own_at_alloc 27 ?_; refine oa_1 HO ?_) | (refine own_at_box 29 ?_; refine ob_2 HO _ rfl ?_) | (refine own_at_alloc 29 ?_; refine oa_2 HO ?_) | (refine own_at_box 37 ?_; refine ob_3a HO _ rfl ?_) | (refine own_at_alloc 37 ?_; refine oa_3a HO ?_) | (refine own_at_box 4 ?_; refine sb_0 HO (.bool _) rfl rfl ?_) | (refine own_at_alloc 4 ?_; refine sa_0 HO ?_) | (refine own_at_box 3 ?_; refine sb_1 HO (.int .i64 _) rfl rfl ?_) | (refine own_at_alloc 3 ?_; refine sa_1 HO ?_) | (refine own_at_box 30 ?_; refine sb_2 HO (.slice _ _ _) rfl rfl ?_) | (refine own_at_alloc 30 ?_; refine sa_2 HO ?_) | (refine own_at_box 5 ?_; refine sb_3a HO (.int .u8 _) rfl rfl ?_) | (refine own_at_alloc 5 ?_; refine sa_3a HO ?_)); intro nB WB HOn; (try simp only [List.cons_append, List.nil_append] at HOn); clear HO; have HO := HOn; clear HOn))
                      | (with_reducible (first | (refine own_at_load 32 ?_; refine op_0 HO rfl _ _ _ _ rfl (by repeat first | apply Has.head | apply Has.tail) (by repeat first | apply Part.done | apply Part.take | apply Part.skip) ?_) | (refine own_at_load 27 ?_; refine op_1 HO rfl _ _ _ _ rfl (by repeat first | apply Has.head | apply Has.tail) (by repeat first | apply Part.done | apply Part.take | apply Part.skip) ?_) | (refine own_at_load 29 ?_; refine op_2 HO rfl _ _ _ _ rfl (by repeat first | apply Has.head | apply Has.tail) (by repeat first | apply Part.done | apply Part.take | apply Part.skip) ?_) | (refine own_at_load 37 ?_; refine op_3a HO rfl _ _ _ _ rfl (by repeat first | apply Has.head | apply Has.tail) (by repeat first | apply Part.done | apply Part.take | apply Part.skip) ?_) | (refine own_at_load 4 ?_; refine sl_0 HO rfl _ _ _ _ rfl (by repeat first | apply Has.head | apply Has.tail) rfl ?_) | (refine own_at_load 3 ?_; refine sl_1 HO rfl _ _ _ _ rfl (by repeat first | apply Has.head | apply Has.tail) rfl ?_) | (refine own_at_load 30 ?_; refine sl_2 HO rfl _ _ _ _ rfl (by repeat first | apply Has.head | apply Has.tail) rfl ?_) | (refine own_at_load 5 ?_; refine sl_3a HO rfl _ _ _ _ rfl (by repeat first | apply Has.head | apply Has.tail) rfl ?_)))
                      | (with_reducible ((first | (refine own_at_store 32 ?_; refine os_0 HO _ rfl rfl _ _ rfl (by repeat first | apply Sto.head | apply Sto.tail | apply Patch.put | apply Patch.skip | apply Patch.done) rfl ?_) | (refine own_at_store 27 ?_; refine os_1 HO _ rfl rfl _ _ rfl (by repeat first | apply Sto.head | apply Sto.tail | apply Patch.put | apply Patch.skip | apply Patch.done) rfl ?_) | (refine own_at_store 29 ?_; refine os_2 HO _ rfl rfl _ _ rfl (by repeat first | apply Sto.head | apply Sto.tail | apply Patch.put | apply Patch.skip | apply Patch.done) rfl ?_) | (refine own_at_store 37 ?_; refine os_3a HO _ rfl rfl _ _ rfl (by repeat first | apply Sto.head | apply Sto.tail | apply Patch.put | apply Patch.skip | apply Patch.done) rfl ?_) | (refine own_at_store 4 ?_; refine st_0 HO (.bool _) rfl rfl _ _ rfl (by repeat first | apply Sto.head | apply Sto.tail | apply Patch.put | apply Patch.skip | apply Patch.done) rfl ?_) | (refine own_at_store 3 ?_; refine st_1 HO (.int .i64 _) rfl rfl _ _ rfl (by repeat first | apply Sto.head | apply Sto.tail | apply Patch.put | apply Patch.skip | apply Patch.done) rfl ?_) | (refine own_at_store 30 ?_; refine st_2 HO (.slice _ _ _) rfl rfl _ _ rfl (by repeat first | apply Sto.head | apply Sto.tail | apply Patch.put | apply Patch.skip | apply Patch.done) rfl ?_) | (refine own_at_store 5 ?_; refine st_3a HO (.int .u8 _) rfl rfl _ _ rfl (by repeat first | apply Sto.head | apply Sto.tail | apply Patch.put | apply Patch.skip | apply Patch.done) rfl ?_)); intro WB HOn; clear HO; have HO := HOn; clear HOn))
                      | (with_reducible refine own_at_load 37 ?_; refine wpList_own_elem rfl 37 _ rfl HO _ Try.underlying37 rfl oinfo_3a 1 _ _ xs rfl acL_len (by decide) q _ HX.out rfl _ rfl ?_)
                      | (go_at_call 14; refine (frozen_f _ _ _ _ _ _ _ _ _ _ _ _ _ _ _ _ _ _ _ _ _ _).mono ?_; rintro e wc ⟨rfl, hb⟩; have HOn := HO.below hb; clear HO hb; have HO := HOn; clear HOn)
                      | (go_at_call 11; refine (allow_neg _ _ _ _ _ _ _ _ _ _ _ _ _ _ _ _ _ _ _ _ _ hneg _).mono ?_; rintro e wc ⟨rfl, hb⟩; have HOn := HO.below hb; clear HO hb; have HO := HOn; clear HOn))
                refine (waiting_at _ _ _ _ _ _ _ _ _ _ _ _ _ _ _ _ _ _ A m c ws b o _ (HW).out (HC).out.1 (HC).out.2 (HA).out (fun hne => ⟨(HO.rng 0 _ _ _ rfl hne).1, (HO.rng 0 _ _ _ rfl hne).2.1⟩) (by omega)).mono ?_
                rintro e wc ⟨v9, rfl, ho9, hb⟩
                obtain ⟨g9, ⟨A9, c9, rfl, hn9, hm9, hA9⟩, hr9⟩ := own_row ho9 (by decide)
                have HOn := HO.pushNew hb g9 0 _ hr9
                clear HO hb ho9 hr9
                have HO := HOn
                clear HOn
                have hsub : (come : Int) + (m : Int) - (come : Int) = (m : Int) := by omega
                by_cases hm0 : 0 < m
                · obtain rfl : A9 = some ⟨g9, 0, none⟩ := hA9 hm0
                  obtain ⟨x, hx⟩ : ∃ x, (ws)[0]? = some x := ⟨_, List.getElem?_eq_getElem (by rw [(HW).out]; exact hm0)⟩
                  have hxn := (HF).out 0 x hx
                  obtain ⟨v0, v1, v2, v3, v4, v5⟩ := x
                  have cw := HO.elemCell inL_len (by decide) 0 _ _ (ws) rfl hx 5 rfl
                  dsimp only at cw hxn
                  simp only [Nat.zero_mul, Nat.add_zero, Nat.zero_add] at cw hxn
                  subst hxn
                  have hmi : (0 : Int) < ((m : Nat) : Int) := by omega
                  have hmn : 0 < m := hm0
                  clear hx hA9
                  go_wp2_with fail
                  go_roundw
                  case rel => exact ⟨q + 1, come, m, c, b, o, A, ⟨⟨d0, d1, d2, d3, d4, d5, d6, d7⟩, d8, true, d10, ⟨d11, d12, d13, d14, d15, d16⟩, d17⟩, ws, by go_num, rfl, rfl, by omega, by omega, HW, HC, HA, HF, Lib.hid ((HO.tailR).takeL 1)⟩
                  case measure => simp [intOf] <;> omega
                · have hmi : ¬ (0 : Int) < ((m : Nat) : Int) := by omega
                  clear hA9
                  go_wp2_with fail
                  go_roundw
                  case rel => exact ⟨q + 1, come, m, c, b, o, A, ⟨⟨d0, d1, d2, d3, d4, d5, d6, d7⟩, d8, true, d10, ⟨d11, d12, d13, d14, d15, d16⟩, d17⟩, ws, by go_num, rfl, rfl, by omega, by omega, HW, HC, HA, HF, Lib.hid ((HO.tailR).takeL 1)⟩
                  case measure => simp [intOf] <;> omega
              · by_cases hbig : 3 ≤ y9
                · skip
                  go_wp2_with (first
                        | (with_reducible ((first | (refine own_at_box 32 ?_; refine ob_0 HO _ rfl ?_) | (refine own_at_alloc 32 ?_; refine oa_0 HO ?_) | (refine own_at_box 27 ?_; refine ob_1 HO _ rfl ?_) | (refine own_at_alloc 27 ?_; refine oa_1 HO ?_) | (refine own_at_box 29 ?_; refine ob_2 HO _ rfl ?_) | (refine own_at_alloc 29 ?_; refine oa_2 HO ?_) | (refine own_at_box 37 ?_; refine ob_3a HO _ rfl ?_) | (refine own_at_alloc 37 ?_; refine oa_3a HO ?_) | (refine own_at_box 4 ?_; refine sb_0 HO (.bool _) rfl rfl ?_) | (refine own_at_alloc 4 ?_; refine sa_0 HO ?_) | (refine own_at_box 3 ?_; refine sb_1 HO (.int .i64 _) rfl rfl ?_) | (refine own_at_alloc 3 ?_; refine sa_1 HO ?_) | (refine own_at_box 30 ?_; refine sb_2 HO (.slice _ _ _) rfl rfl ?_) | (refine own_at_alloc 30 ?_; refine sa_2 HO ?_) | (refine own_at_box 5 ?_; refine sb_3a HO (.int .u8 _) rfl rfl ?_) | (refine own_at_alloc 5 ?_; refine sa_3a HO ?_)); intro nB WB HOn; (try simp only [List.cons_append, List.nil_append] at HOn); clear HO; have HO := HOn; clear HOn))
                        | (with_reducible (first | (refine own_at_load 32 ?_; refine op_0 HO rfl _ _ _ _ rfl (by repeat first | apply Has.head | apply Has.tail) (by repeat first | apply Part.done | apply Part.take | apply Part.skip) ?_) | (refine own_at_load 27 ?_; refine op_1 HO rfl _ _ _ _ rfl (by repeat first | apply Has.head | apply Has.tail) (by repeat first | apply Part.done | apply Part.take | apply Part.skip) ?_) | (refine own_at_load 29 ?_; refine op_2 HO rfl _ _ _ _ rfl (by repeat first | apply Has.head | apply Has.tail) (by repeat first | apply Part.done | apply Part.take | apply Part.skip) ?_) | (refine own_at_load 37 ?_; refine op_3a HO rfl _ _ _ _ rfl (by repeat first | apply Has.head | apply Has.tail) (by repeat first | apply Part.done | apply Part.take | apply Part.skip) ?_) | (refine own_at_load 4 ?_; refine sl_0 HO rfl _ _ _ _ rfl (by repeat first | apply Has.head | apply Has.tail) rfl ?_) | (refine own_at_load 3 ?_; refine sl_1 HO rfl _ _ _ _ rfl (by repeat first | apply Has.head | apply Has.tail) rfl ?_) | (refine own_at_load 30 ?_; refine sl_2 HO rfl _ _ _ _ rfl (by repeat first | apply Has.head | apply Has.tail) rfl ?_) | (refine own_at_load 5 ?_; refine sl_3a HO rfl _ _ _ _ rfl (by repeat first | apply Has.head | apply Has.tail) rfl ?_)))
                        | (with_reducible ((first | (refine own_at_store 32 ?_; refine os_0 HO _ rfl rfl _ _ rfl (by repeat first | apply Sto.head | apply Sto.tail | apply Patch.put | apply Patch.skip | apply Patch.done) rfl ?_) | (refine own_at_store 27 ?_; refine os_1 HO _ rfl rfl _ _ rfl (by repeat first | apply Sto.head | apply Sto.tail | apply Patch.put | apply Patch.skip | apply Patch.done) rfl ?_) | (refine own_at_store 29 ?_; refine os_2 HO _ rfl rfl _ _ rfl (by repeat first | apply Sto.head | apply Sto.tail | apply Patch.put | apply Patch.skip | apply Patch.done) rfl ?_) | (refine own_at_store 37 ?_; refine os_3a HO _ rfl rfl _ _ rfl (by repeat first | apply Sto.head | apply Sto.tail | apply Patch.put | apply Patch.skip | apply Patch.done) rfl ?_) | (refine own_at_store 4 ?_; refine st_0 HO (.bool _) rfl rfl _ _ rfl (by repeat first | apply Sto.head | apply Sto.tail | apply Patch.put | apply Patch.skip | apply Patch.done) rfl ?_) | (refine own_at_store 3 ?_; refine st_1 HO (.int .i64 _) rfl rfl _ _ rfl (by repeat first | apply Sto.head | apply Sto.tail | apply Patch.put | apply Patch.skip | apply Patch.done) rfl ?_) | (refine own_at_store 30 ?_; refine st_2 HO (.slice _ _ _) rfl rfl _ _ rfl (by repeat first | apply Sto.head | apply Sto.tail | apply Patch.put | apply Patch.skip | apply Patch.done) rfl ?_) | (refine own_at_store 5 ?_; refine st_3a HO (.int .u8 _) rfl rfl _ _ rfl (by repeat first | apply Sto.head | apply Sto.tail | apply Patch.put | apply Patch.skip | apply Patch.done) rfl ?_)); intro WB HOn; clear HO; have HO := HOn; clear HOn))
                        | (with_reducible refine own_at_load 37 ?_; refine wpList_own_elem rfl 37 _ rfl HO _ Try.underlying37 rfl oinfo_3a 1 _ _ xs rfl acL_len (by decide) q _ HX.out rfl _ rfl ?_)
                        | (go_at_call 14; refine (frozen_f _ _ _ _ _ _ _ _ _ _ _ _ _ _ _ _ _ _ _ _ _ _).mono ?_; rintro e wc ⟨rfl, hb⟩; have HOn := HO.below hb; clear HO hb; have HO := HOn; clear HOn)
                        | (go_at_call 11; refine (allow_big _ _ _ _ _ _ _ _ _ _ _ _ _ _ _ _ _ _ _ _ _ hbig _).mono ?_; rintro e wc ⟨rfl, hb⟩; have HOn := HO.below hb; clear HO hb; have HO := HOn; clear HOn))
                  refine (waiting_at _ _ _ _ _ _ _ _ _ _ _ _ _ _ _ _ _ _ A m c ws b o _ (HW).out (HC).out.1 (HC).out.2 (HA).out (fun hne => ⟨(HO.rng 0 _ _ _ rfl hne).1, (HO.rng 0 _ _ _ rfl hne).2.1⟩) (by omega)).mono ?_
                  rintro e wc ⟨v9, rfl, ho9, hb⟩
                  obtain ⟨g9, ⟨A9, c9, rfl, hn9, hm9, hA9⟩, hr9⟩ := own_row ho9 (by decide)
                  have HOn := HO.pushNew hb g9 0 _ hr9
                  clear HO hb ho9 hr9
                  have HO := HOn
                  clear HOn
                  have hsub : (come : Int) + (m : Int) - (come : Int) = (m : Int) := by omega
                  by_cases hm0 : 0 < m
                  · obtain rfl : A9 = some ⟨g9, 0, none⟩ := hA9 hm0
                    obtain ⟨x, hx⟩ : ∃ x, (ws)[0]? = some x := ⟨_, List.getElem?_eq_getElem (by rw [(HW).out]; exact hm0)⟩
                    have hxn := (HF).out 0 x hx
                    obtain ⟨v0, v1, v2, v3, v4, v5⟩ := x
                    have cw := HO.elemCell inL_len (by decide) 0 _ _ (ws) rfl hx 5 rfl
                    dsimp only at cw hxn
                    simp only [Nat.zero_mul, Nat.add_zero, Nat.zero_add] at cw hxn
                    subst hxn
                    have hmi : (0 : Int) < ((m : Nat) : Int) := by omega
                    have hmn : 0 < m := hm0
                    clear hx hA9
                    go_wp2_with fail
                    go_roundw
                    case rel => exact ⟨q + 1, come, m, c, b, o, A, ⟨⟨d0, d1, d2, d3, d4, d5, d6, d7⟩, d8, true, d10, ⟨d11, d12, d13, d14, d15, d16⟩, d17⟩, ws, by go_num, rfl, rfl, by omega, by omega, HW, HC, HA, HF, Lib.hid ((HO.tailR).takeL 1)⟩
                    case measure => simp [intOf] <;> omega
                  · have hmi : ¬ (0 : Int) < ((m : Nat) : Int) := by omega
                    clear hA9
                    go_wp2_with fail
                    go_roundw
                    case rel => exact ⟨q + 1, come, m, c, b, o, A, ⟨⟨d0, d1, d2, d3, d4, d5, d6, d7⟩, d8, true, d10, ⟨d11, d12, d13, d14, d15, d16⟩, d17⟩, ws, by go_num, rfl, rfl, by omega, by omega, HW, HC, HA, HF, Lib.hid ((HO.tailR).takeL 1)⟩
                    case measure => simp [intOf] <;> omega
                · rcases (by omega : y9 = 0 ∨ y9 = 1 ∨ y9 = 2) with rfl | rfl | rfl
                  · skip
                    go_wp2_with (first
                          | (with_reducible ((first | (refine own_at_box 32 ?_; refine ob_0 HO _ rfl ?_) | (refine own_at_alloc 32 ?_; refine oa_0 HO ?_) | (refine own_at_box 27 ?_; refine ob_1 HO _ rfl ?_) | (refine own_at_alloc 27 ?_; refine oa_1 HO ?_) | (refine own_at_box 29 ?_; refine ob_2 HO _ rfl ?_) | (refine own_at_alloc 29 ?_; refine oa_2 HO ?_) | (refine own_at_box 37 ?_; refine ob_3a HO _ rfl ?_) | (refine own_at_alloc 37 ?_; refine oa_3a HO ?_) | (refine own_at_box 4 ?_; refine sb_0 HO (.bool _) rfl rfl ?_) | (refine own_at_alloc 4 ?_; refine sa_0 HO ?_) | (refine own_at_box 3 ?_; refine sb_1 HO (.int .i64 _) rfl rfl ?_) | (refine own_at_alloc 3 ?_; refine sa_1 HO ?_) | (refine own_at_box 30 ?_; refine sb_2 HO (.slice _ _ _) rfl rfl ?_) | (refine own_at_alloc 30 ?_; refine sa_2 HO ?_) | (refine own_at_box 5 ?_; refine sb_3a HO (.int .u8 _) rfl rfl ?_) | (refine own_at_alloc 5 ?_; refine sa_3a HO ?_)); intro nB WB HOn; (try simp only [List.cons_append, List.nil_append] at HOn); clear HO; have HO := HOn; clear HOn))
                          | (with_reducible (first | (refine own_at_load 32 ?_; refine op_0 HO rfl _ _ _ _ rfl (by repeat first | apply Has.head | apply Has.tail) (by repeat first | apply Part.done | apply Part.take | apply Part.skip) ?_) | (refine own_at_load 27 ?_; refine op_1 HO rfl _ _ _ _ rfl (by repeat first | apply Has.head | apply Has.tail) (by repeat first | apply Part.done | apply Part.take | apply Part.skip) ?_) | (refine own_at_load 29 ?_; refine op_2 HO rfl _ _ _ _ rfl (by repeat first | apply Has.head | apply Has.tail) (by repeat first | apply Part.done | apply Part.take | apply Part.skip) ?_) | (refine own_at_load 37 ?_; refine op_3a HO rfl _ _ _ _ rfl (by repeat first | apply Has.head | apply Has.tail) (by repeat first | apply Part.done | apply Part.take | apply Part.skip) ?_) | (refine own_at_load 4 ?_; refine sl_0 HO rfl _ _ _ _ rfl (by repeat first | apply Has.head | apply Has.tail) rfl ?_) | (refine own_at_load 3 ?_; refine sl_1 HO rfl _ _ _ _ rfl (by repeat first | apply Has.head | apply Has.tail) rfl ?_) | (refine own_at_load 30 ?_; refine sl_2 HO rfl _ _ _ _ rfl (by repeat first | apply Has.head | apply Has.tail) rfl ?_) | (refine own_at_load 5 ?_; refine sl_3a HO rfl _ _ _ _ rfl (by repeat first | apply Has.head | apply Has.tail) rfl ?_)))
                          | (with_reducible ((first | (refine own_at_store 32 ?_; refine os_0 HO _ rfl rfl _ _ rfl (by repeat first | apply Sto.head | apply Sto.tail | apply Patch.put | apply Patch.skip | apply Patch.done) rfl ?_) | (refine own_at_store 27 ?_; refine os_1 HO _ rfl rfl _ _ rfl (by repeat first | apply Sto.head | apply Sto.tail | apply Patch.put | apply Patch.skip | apply Patch.done) rfl ?_) | (refine own_at_store 29 ?_; refine os_2 HO _ rfl rfl _ _ rfl (by repeat first | apply Sto.head | apply Sto.tail | apply Patch.put | apply Patch.skip | apply Patch.done) rfl ?_) | (refine own_at_store 37 ?_; refine os_3a HO _ rfl rfl _ _ rfl (by repeat first | apply Sto.head | apply Sto.tail | apply Patch.put | apply Patch.skip | apply Patch.done) rfl ?_) | (refine own_at_store 4 ?_; refine st_0 HO (.bool _) rfl rfl _ _ rfl (by repeat first | apply Sto.head | apply Sto.tail | apply Patch.put | apply Patch.skip | apply Patch.done) rfl ?_) | (refine own_at_store 3 ?_; refine st_1 HO (.int .i64 _) rfl rfl _ _ rfl (by repeat first | apply Sto.head | apply Sto.tail | apply Patch.put | apply Patch.skip | apply Patch.done) rfl ?_) | (refine own_at_store 30 ?_; refine st_2 HO (.slice _ _ _) rfl rfl _ _ rfl (by repeat first | apply Sto.head | apply Sto.tail | apply Patch.put | apply Patch.skip | apply Patch.done) rfl ?_) | (refine own_at_store 5 ?_; refine st_3a HO (.int .u8 _) rfl rfl _ _ rfl (by repeat first | apply Sto.head | apply Sto.tail | apply Patch.put | apply Patch.skip | apply Patch.done) rfl ?_)); intro WB HOn; clear HO; have HO := HOn; clear HOn))
                          | (with_reducible refine own_at_load 37 ?_; refine wpList_own_elem rfl 37 _ rfl HO _ Try.underlying37 rfl oinfo_3a 1 _ _ xs rfl acL_len (by decide) q _ HX.out rfl _ rfl ?_)
                          | (go_at_call 14; refine (frozen_f _ _ _ _ _ _ _ _ _ _ _ _ _ _ _ _ _ _ _ _ _ _).mono ?_; rintro e wc ⟨rfl, hb⟩; have HOn := HO.below hb; clear HO hb; have HO := HOn; clear HOn)
                          | (go_at_call 11; refine (allow_async _ _ _ _ _ _ _ _ _ _ _ _ _ _ _ _ _ _ _ _ _).mono ?_; rintro e wc ⟨rfl, hb⟩; have HOn := HO.below hb; clear HO hb; have HO := HOn; clear HOn))
                    refine (waiting_at _ _ _ _ _ _ _ _ _ _ _ _ _ _ _ _ _ _ A m c ws b o _ (HW).out (HC).out.1 (HC).out.2 (HA).out (fun hne => ⟨(HO.rng 0 _ _ _ rfl hne).1, (HO.rng 0 _ _ _ rfl hne).2.1⟩) (by omega)).mono ?_
                    rintro e wc ⟨v9, rfl, ho9, hb⟩
                    obtain ⟨g9, ⟨A9, c9, rfl, hn9, hm9, hA9⟩, hr9⟩ := own_row ho9 (by decide)
                    have HOn := HO.pushNew hb g9 0 _ hr9
                    clear HO hb ho9 hr9
                    have HO := HOn
                    clear HOn
                    have hsub : (come : Int) + (m : Int) - (come : Int) = (m : Int) := by omega
                    by_cases hm0 : 0 < m
                    · obtain rfl : A9 = some ⟨g9, 0, none⟩ := hA9 hm0
                      obtain ⟨x, hx⟩ : ∃ x, (ws)[0]? = some x := ⟨_, List.getElem?_eq_getElem (by rw [(HW).out]; exact hm0)⟩
                      have hxn := (HF).out 0 x hx
                      obtain ⟨v0, v1, v2, v3, v4, v5⟩ := x
                      have cw := HO.elemCell inL_len (by decide) 0 _ _ (ws) rfl hx 5 rfl
                      dsimp only at cw hxn
                      simp only [Nat.zero_mul, Nat.add_zero, Nat.zero_add] at cw hxn
                      subst hxn
                      have hmi : (0 : Int) < ((m : Nat) : Int) := by omega
                      have hmn : 0 < m := hm0
                      clear hx hA9
                      go_wp2_with fail
                      go_roundw
                      case rel => exact ⟨q + 1, come, m, c, b, o, A, ⟨⟨d0, d1, d2, d3, d4, d5, d6, d7⟩, d8, false, false, ⟨0, 0, 0, 0, 0, 0⟩, false⟩, ws, by go_num, rfl, rfl, by omega, by omega, HW, HC, HA, HF, Lib.hid ((HO.tailR).takeL 1)⟩
                      case measure => simp [intOf] <;> omega
                    · have hmi : ¬ (0 : Int) < ((m : Nat) : Int) := by omega
                      clear hA9
                      go_wp2_with fail
                      go_roundw
                      case rel => exact ⟨q + 1, come, m, c, b, o, A, ⟨⟨d0, d1, d2, d3, d4, d5, d6, d7⟩, d8, false, false, ⟨0, 0, 0, 0, 0, 0⟩, false⟩, ws, by go_num, rfl, rfl, by omega, by omega, HW, HC, HA, HF, Lib.hid ((HO.tailR).takeL 1)⟩
                      case measure => simp [intOf] <;> omega
                  · skip
                    go_wp2_with (first
                          | (with_reducible ((first | (refine own_at_box 32 ?_; refine ob_0 HO _ rfl ?_) | (refine own_at_alloc 32 ?_; refine oa_0 HO ?_) | (refine own_at_box 27 ?_; refine ob_1 HO _ rfl ?_) | (refine own_at_alloc 27 ?_; refine oa_1 HO ?_) | (refine own_at_box 29 ?_; refine ob_2 HO _ rfl ?_) | (refine own_at_alloc 29 ?_; refine oa_2 HO ?_) | (refine own_at_box 37 ?_; refine ob_3a HO _ rfl ?_) | (refine own_at_alloc 37 ?_; refine oa_3a HO ?_) | (refine own_at_box 4 ?_; refine sb_0 HO (.bool _) rfl rfl ?_) | (refine own_at_alloc 4 ?_; refine sa_0 HO ?_) | (refine own_at_box 3 ?_; refine sb_1 HO (.int .i64 _) rfl rfl ?_) | (refine own_at_alloc 3 ?_; refine sa_1 HO ?_) | (refine own_at_box 30 ?_; refine sb_2 HO (.slice _ _ _) rfl rfl ?_) | (refine own_at_alloc 30 ?_; refine sa_2 HO ?_) | (refine own_at_box 5 ?_; refine sb_3a HO (.int .u8 _) rfl rfl ?_) | (refine own_at_alloc 5 ?_; refine sa_3a HO ?_)); intro nB WB HOn; (try simp only [List.cons_append, List.nil_append] at HOn); clear HO; have HO := HOn; clear HOn))
                          | (with_reducible (first | (refine own_at_load 32 ?_; refine op_0 HO rfl _ _ _ _ rfl (by repeat first | apply Has.head | apply Has.tail) (by repeat first | apply Part.done | apply Part.take | apply Part.skip) ?_) | (refine own_at_load 27 ?_; refine op_1 HO rfl _ _ _ _ rfl (by repeat first | apply Has.head | apply Has.tail) (by repeat first | apply Part.done | apply Part.take | apply Part.skip) ?_) | (refine own_at_load 29 ?_; refine op_2 HO rfl _ _ _ _ rfl (by repeat first | apply Has.head | apply Has.tail) (by repeat first | apply Part.done | apply Part.take | apply Part.skip) ?_) | (refine own_at_load 37 ?_; refine op_3a HO rfl _ _ _ _ rfl (by repeat first | apply Has.head | apply Has.tail) (by repeat first | apply Part.done | apply Part.take | apply Part.skip) ?_) | (refine own_at_load 4 ?_; refine sl_0 HO rfl _ _ _ _ rfl (by repeat first | apply Has.head | apply Has.tail) rfl ?_) | (refine own_at_load 3 ?_; refine sl_1 HO rfl _ _ _ _ rfl (by repeat first | apply Has.head | apply Has.tail) rfl ?_) | (refine own_at_load 30 ?_; refine sl_2 HO rfl _ _ _ _ rfl (by repeat first | apply Has.head | apply Has.tail) rfl ?_) | (refine own_at_load 5 ?_; refine sl_3a HO rfl _ _ _ _ rfl (by repeat first | apply Has.head | apply Has.tail) rfl ?_)))
                          | (with_reducible ((first | (refine own_at_store 32 ?_; refine os_0 HO _ rfl rfl _ _ rfl (by repeat first | apply Sto.head | apply Sto.tail | apply Patch.put | apply Patch.skip | apply Patch.done) rfl ?_) | (refine own_at_store 27 ?_; refine os_1 HO _ rfl rfl _ _ rfl (by repeat first | apply Sto.head | apply Sto.tail | apply Patch.put | apply Patch.skip | apply Patch.done) rfl ?_) | (refine own_at_store 29 ?_; refine os_2 HO _ rfl rfl _ _ rfl (by repeat first | apply Sto.head | apply Sto.tail | apply Patch.put | apply Patch.skip | apply Patch.done) rfl ?_) | (refine own_at_store 37 ?_; refine os_3a HO _ rfl rfl _ _ rfl (by repeat first | apply Sto.head | apply Sto.tail | apply Patch.put | apply Patch.skip | apply Patch.done) rfl ?_) | (refine own_at_store 4 ?_; refine st_0 HO (.bool _) rfl rfl _ _ rfl (by repeat first | apply Sto.head | apply Sto.tail | apply Patch.put | apply Patch.skip | apply Patch.done) rfl ?_) | (refine own_at_store 3 ?_; refine st_1 HO (.int .i64 _) rfl rfl _ _ rfl (by repeat first | apply Sto.head | apply Sto.tail | apply Patch.put | apply Patch.skip | apply Patch.done) rfl ?_) | (refine own_at_store 30 ?_; refine st_2 HO (.slice _ _ _) rfl rfl _ _ rfl (by repeat first | apply Sto.head | apply Sto.tail | apply Patch.put | apply Patch.skip | apply Patch.done) rfl ?_) | (refine own_at_store 5 ?_; refine st_3a HO (.int .u8 _) rfl rfl _ _ rfl (by repeat first | apply Sto.head | apply Sto.tail | apply Patch.put | apply Patch.skip | apply Patch.done) rfl ?_)); intro WB HOn; clear HO; have HO := HOn; clear HOn))
                          | (with_reducible refine own_at_load 37 ?_; refine wpList_own_elem rfl 37 _ rfl HO _ Try.underlying37 rfl oinfo_3a 1 _ _ xs rfl acL_len (by decide) q _ HX.out rfl _ rfl ?_)
                          | (go_at_call 14; refine (frozen_f _ _ _ _ _ _ _ _ _ _ _ _ _ _ _ _ _ _ _ _ _ _).mono ?_; rintro e wc ⟨rfl, hb⟩; have HOn := HO.below hb; clear HO hb; have HO := HOn; clear HOn)
                          | (go_at_call 11; refine (allow_sync _ _ _ _ _ _ _ _ _ _ _ _ _ _ _ _ _ _ _ _ _).mono ?_; rintro e wc ⟨rfl, hb⟩; have HOn := HO.below hb; clear HO hb; have HO := HOn; clear HOn))
                    refine (waiting_at _ _ _ _ _ _ _ _ _ _ _ _ _ _ _ _ _ _ A m c ws b o _ (HW).out (HC).out.1 (HC).out.2 (HA).out (fun hne => ⟨(HO.rng 0 _ _ _ rfl hne).1, (HO.rng 0 _ _ _ rfl hne).2.1⟩) (by omega)).mono ?_
                    rintro e wc ⟨v9, rfl, ho9, hb⟩
                    obtain ⟨g9, ⟨A9, c9, rfl, hn9, hm9, hA9⟩, hr9⟩ := own_row ho9 (by decide)
                    have HOn := HO.pushNew hb g9 0 _ hr9
                    clear HO hb ho9 hr9
                    have HO := HOn
                    clear HOn
                    have hsub : (come : Int) + (m : Int) - (come : Int) = (m : Int) := by omega
                    by_cases hm0 : 0 < m
                    · obtain rfl : A9 = some ⟨g9, 0, none⟩ := hA9 hm0
                      obtain ⟨x, hx⟩ : ∃ x, (ws)[0]? = some x := ⟨_, List.getElem?_eq_getElem (by rw [(HW).out]; exact hm0)⟩
                      have hxn := (HF).out 0 x hx
                      obtain ⟨v0, v1, v2, v3, v4, v5⟩ := x
                      have cw := HO.elemCell inL_len (by decide) 0 _ _ (ws) rfl hx 5 rfl
                      dsimp only at cw hxn
                      simp only [Nat.zero_mul, Nat.add_zero, Nat.zero_add] at cw hxn
                      subst hxn
                      have hmi : (0 : Int) < ((m : Nat) : Int) := by omega
                      have hmn : 0 < m := hm0
                      clear hx hA9
                      go_wp2_with fail
                      go_roundw
                      case rel => exact ⟨q + 1, come, m, c, b, o, A, ⟨⟨d0, d1, d2, d3, d4, d5, d6, d7⟩, d8, false, true, ⟨0, 0, 0, 0, 0, 0⟩, false⟩, ws, by go_num, rfl, rfl, by omega, by omega, HW, HC, HA, HF, Lib.hid ((HO.tailR).takeL 1)⟩
                      case measure => simp [intOf] <;> omega
                    · have hmi : ¬ (0 : Int) < ((m : Nat) : Int) := by omega
                      clear hA9
                      go_wp2_with fail
                      go_roundw
                      case rel => exact ⟨q + 1, come, m, c, b, o, A, ⟨⟨d0, d1, d2, d3, d4, d5, d6, d7⟩, d8, false, true, ⟨0, 0, 0, 0, 0, 0⟩, false⟩, ws, by go_num, rfl, rfl, by omega, by omega, HW, HC, HA, HF, Lib.hid ((HO.tailR).takeL 1)⟩
                      case measure => simp [intOf] <;> omega
                  · cases d17
                    · skip
                      go_wp2_with (first
                            | (with_reducible ((first | (refine own_at_box 32 ?_; refine ob_0 HO _ rfl ?_) | (refine own_at_alloc 32 ?_; refine oa_0 HO ?_) | (refine own_at_box 27 ?_; refine ob_1 HO _ rfl ?_) | (refine own_at_alloc 27 ?_; refine oa_1 HO ?_) | (refine own_at_box 29 ?_; refine ob_2 HO _ rfl ?_) | (refine own_at_alloc 29 ?_; refine oa_2 HO ?_) | (refine own_at_box 37 ?_; refine ob_3a HO _ rfl ?_) | (refine own_at_alloc 37 ?_; refine oa_3a HO ?_) | (refine own_at_box 4 ?_; refine sb_0 HO (.bool _) rfl rfl ?_) | (refine own_at_alloc 4 ?_; refine sa_0 HO ?_) | (refine own_at_box 3 ?_; refine sb_1 HO (.int .i64 _) rfl rfl ?_) | (refine own_at_alloc 3 ?_; refine sa_1 HO ?_) | (refine own_at_box 30 ?_; refine sb_2 HO (.slice _ _ _) rfl rfl ?_) | (refine own_at_alloc 30 ?_; refine sa_2 HO ?_) | (refine own_at_box 5 ?_; refine sb_3a HO (.int .u8 _) rfl rfl ?_) | (refine own_at_alloc 5 ?_; refine sa_3a HO ?_)); intro nB WB HOn; (try simp only [List.cons_append, List.nil_append] at HOn); clear HO; have HO := HOn; clear HOn))
                            | (with_reducible (first | (refine own_at_load 32 ?_; refine op_0 HO rfl _ _ _ _ rfl (by repeat first | apply Has.head | apply Has.tail) (by repeat first | apply Part.done | apply Part.take | apply Part.skip) ?_) | (refine own_at_load 27 ?_; refine op_1 HO rfl _ _ _ _ rfl (by repeat first | apply Has.head | apply Has.tail) (by repeat first | apply Part.done | apply Part.take | apply Part.skip) ?_) | (refine own_at_load 29 ?_; refine op_2 HO rfl _ _ _ _ rfl (by repeat first | apply Has.head | apply Has.tail) (by repeat first | apply Part.done | apply Part.take | apply Part.skip) ?_) | (refine own_at_load 37 ?_; refine op_3a HO rfl _ _ _ _ rfl (by repeat first | apply Has.head | apply Has.tail) (by repeat first | apply Part.done | apply Part.take | apply Part.skip) ?_) | (refine own_at_load 4 ?_; refine sl_0 HO rfl _ _ _ _ rfl (by repeat first | apply Has.head | apply Has.tail) rfl ?_) | (refine own_at_load 3 ?_; refine sl_1 HO rfl _ _ _ _ rfl (by repeat first | apply Has.head | apply Has.tail) rfl ?_) | (refine own_at_load 30 ?_; refine sl_2 HO rfl _ _ _ _ rfl (by repeat first | apply Has.head | apply Has.tail) rfl ?_) | (refine own_at_load 5 ?_; refine sl_3a HO rfl _ _ _ _ rfl (by repeat first | apply Has.head | apply Has.tail) rfl ?_)))
                            | (with_reducible ((first | (refine own_at_store 32 ?_; refine os_0 HO _ rfl rfl _ _ rfl (by repeat first | apply Sto.head | apply Sto.tail | apply Patch.put | apply Patch.skip | apply Patch.done) rfl ?_) | (refine own_at_store 27 ?_; refine os_1 HO _ rfl rfl _ _ rfl (by repeat first | apply Sto.head | apply Sto.tail | apply Patch.put | apply Patch.skip | apply Patch.done) rfl ?_) | (refine own_at_store 29 ?_; refine os_2 HO _ rfl rfl _ _ rfl (by repeat first | apply Sto.head | apply Sto.tail | apply Patch.put | apply Patch.skip | apply Patch.done) rfl ?_) | (refine own_at_store 37 ?_; refine os_3a HO _ rfl rfl _ _ rfl (by repeat first | apply Sto.head | apply Sto.tail | apply Patch.put | apply Patch.skip | apply Patch.done) rfl ?_) | (refine own_at_store 4 ?_; refine st_0 HO (.bool _) rfl rfl _ _ rfl (by repeat first | apply Sto.head | apply Sto.tail | apply Patch.put | apply Patch.skip | apply Patch.done) rfl ?_) | (refine own_at_store 3 ?_; refine st_1 HO (.int .i64 _) rfl rfl _ _ rfl (by repeat first | apply Sto.head | apply Sto.tail | apply Patch.put | apply Patch.skip | apply Patch.done) rfl ?_) | (refine own_at_store 30 ?_; refine st_2 HO (.slice _ _ _) rfl rfl _ _ rfl (by repeat first | apply Sto.head | apply Sto.tail | apply Patch.put | apply Patch.skip | apply Patch.done) rfl ?_) | (refine own_at_store 5 ?_; refine st_3a HO (.int .u8 _) rfl rfl _ _ rfl (by repeat first | apply Sto.head | apply Sto.tail | apply Patch.put | apply Patch.skip | apply Patch.done) rfl ?_)); intro WB HOn; clear HO; have HO := HOn; clear HOn))
                            | (with_reducible refine own_at_load 37 ?_; refine wpList_own_elem rfl 37 _ rfl HO _ Try.underlying37 rfl oinfo_3a 1 _ _ xs rfl acL_len (by decide) q _ HX.out rfl _ rfl ?_)
                            | (go_at_call 14; refine (frozen_f _ _ _ _ _ _ _ _ _ _ _ _ _ _ _ _ _ _ _ _ _ _).mono ?_; rintro e wc ⟨rfl, hb⟩; have HOn := HO.below hb; clear HO hb; have HO := HOn; clear HOn)
                            | (go_at_call 11; refine (allow_replay_no _ _ _ _ _ _ _ _ _ _ _ _ _ _ _ _ _ _ _ _ (Or.inl rfl) _).mono ?_; rintro e wc ⟨rfl, hb⟩; have HOn := HO.below hb; clear HO hb; have HO := HOn; clear HOn))
                      refine (waiting_at _ _ _ _ _ _ _ _ _ _ _ _ _ _ _ _ _ _ A m c ws b o _ (HW).out (HC).out.1 (HC).out.2 (HA).out (fun hne => ⟨(HO.rng 0 _ _ _ rfl hne).1, (HO.rng 0 _ _ _ rfl hne).2.1⟩) (by omega)).mono ?_
                      rintro e wc ⟨v9, rfl, ho9, hb⟩
                      obtain ⟨g9, ⟨A9, c9, rfl, hn9, hm9, hA9⟩, hr9⟩ := own_row ho9 (by decide)
                      have HOn := HO.pushNew hb g9 0 _ hr9
                      clear HO hb ho9 hr9
                      have HO := HOn
                      clear HOn
                      have hsub : (come : Int) + (m : Int) - (come : Int) = (m : Int) := by omega
                      by_cases hm0 : 0 < m
                      · obtain rfl : A9 = some ⟨g9, 0, none⟩ := hA9 hm0
                        obtain ⟨x, hx⟩ : ∃ x, (ws)[0]? = some x := ⟨_, List.getElem?_eq_getElem (by rw [(HW).out]; exact hm0)⟩
                        have hxn := (HF).out 0 x hx
                        obtain ⟨v0, v1, v2, v3, v4, v5⟩ := x
                        have cw := HO.elemCell inL_len (by decide) 0 _ _ (ws) rfl hx 5 rfl
                        dsimp only at cw hxn
                        simp only [Nat.zero_mul, Nat.add_zero, Nat.zero_add] at cw hxn
                        subst hxn
                        have hmi : (0 : Int) < ((m : Nat) : Int) := by omega
                        have hmn : 0 < m := hm0
                        clear hx hA9
                        go_wp2_with fail
                        go_roundw
                        case rel => exact ⟨q + 1, come, m, c, b, o, A, ⟨⟨d0, d1, d2, d3, d4, d5, d6, d7⟩, d8, true, d10, ⟨d11, d12, d13, d14, d15, d16⟩, false⟩, ws, by go_num, rfl, rfl, by omega, by omega, HW, HC, HA, HF, Lib.hid ((HO.tailR).takeL 1)⟩
                        case measure => simp [intOf] <;> omega
                      · have hmi : ¬ (0 : Int) < ((m : Nat) : Int) := by omega
                        clear hA9
                        go_wp2_with fail
                        go_roundw
                        case rel => exact ⟨q + 1, come, m, c, b, o, A, ⟨⟨d0, d1, d2, d3, d4, d5, d6, d7⟩, d8, true, d10, ⟨d11, d12, d13, d14, d15, d16⟩, false⟩, ws, by go_num, rfl, rfl, by omega, by omega, HW, HC, HA, HF, Lib.hid ((HO.tailR).takeL 1)⟩
                        case measure => simp [intOf] <;> omega
                    · cases d8
                      · skip
                        go_wp2_with (first
                              | (with_reducible ((first | (refine own_at_box 32 ?_; refine ob_0 HO _ rfl ?_) | (refine own_at_alloc 32 ?_; refine oa_0 HO ?_) | (refine own_at_box 27 ?_; refine ob_1 HO _ rfl ?_) | (refine own_at_alloc 27 ?_; refine oa_1 HO ?_) | (refine own_at_box 29 ?_; refine ob_2 HO _ rfl ?_) | (refine own_at_alloc 29 ?_; refine oa_2 HO ?_) | (refine own_at_box 37 ?_; refine ob_3a HO _ rfl ?_) | (refine own_at_alloc 37 ?_; refine oa_3a HO ?_) | (refine own_at_box 4 ?_; refine sb_0 HO (.bool _) rfl rfl ?_) | (refine own_at_alloc 4 ?_; refine sa_0 HO ?_) | (refine own_at_box 3 ?_; refine sb_1 HO (.int .i64 _) rfl rfl ?_) | (refine own_at_alloc 3 ?_; refine sa_1 HO ?_) | (refine own_at_box 30 ?_; refine sb_2 HO (.slice _ _ _) rfl rfl ?_) | (refine own_at_alloc 30 ?_; refine sa_2 HO ?_) | (refine own_at_box 5 ?_; refine sb_3a HO (.int .u8 _) rfl rfl ?_) | (refine own_at_alloc 5 ?_; refine sa_3a HO ?_)); intro nB WB HOn; (try simp only [List.cons_append, List.nil_append] at HOn); clear HO; have HO := HOn; clear HOn))
                              | (with_reducible (first | (refine own_at_load 32 ?_; refine op_0 HO rfl _ _ _ _ rfl (by repeat first | apply Has.head | apply Has.tail) (by repeat first | apply Part.done | apply Part.take | apply Part.skip) ?_) | (refine own_at_load 27 ?_; refine op_1 HO rfl _ _ _ _ rfl (by repeat first | apply Has.head | apply Has.tail) (by repeat first | apply Part.done | apply Part.take | apply Part.skip) ?_) | (refine own_at_load 29 ?_; refine op_2 HO rfl _ _ _ _ rfl (by repeat first | apply Has.head | apply Has.tail) (by repeat first | apply Part.done | apply Part.take | apply Part.skip) ?_) | (refine own_at_load 37 ?_; refine op_3a HO rfl _ _ _ _ rfl (by repeat first | apply Has.head | apply Has.tail) (by repeat first | apply Part.done | apply Part.take | apply Part.skip) ?_) | (refine own_at_load 4 ?_; refine sl_0 HO rfl _ _ _ _ rfl (by repeat first | apply Has.head | apply Has.tail) rfl ?_) | (refine own_at_load 3 ?_; refine sl_1 HO rfl _ _ _ _ rfl (by repeat first | apply Has.head | apply Has.tail) rfl ?_) | (refine own_at_load 30 ?_; refine sl_2 HO rfl _ _ _ _ rfl (by repeat first | apply Has.head | apply Has.tail) rfl ?_) | (refine own_at_load 5 ?_; refine sl_3a HO rfl _ _ _ _ rfl (by repeat first | apply Has.head | apply Has.tail) rfl ?_)))
                              | (with_reducible ((first | (refine own_at_store 32 ?_; refine os_0 HO _ rfl rfl _ _ rfl (by repeat first | apply Sto.head | apply Sto.tail | apply Patch.put | apply Patch.skip | apply Patch.done) rfl ?_) | (refine own_at_store 27 ?_; refine os_1 HO _ rfl rfl _ _ rfl (by repeat first | apply Sto.head | apply Sto.tail | apply Patch.put | apply Patch.skip | apply Patch.done) rfl ?_) | (refine own_at_store 29 ?_; refine os_2 HO _ rfl rfl _ _ rfl (by repeat first | apply Sto.head | apply Sto.tail | apply Patch.put | apply Patch.skip | apply Patch.done) rfl ?_) | (refine own_at_store 37 ?_; refine os_3a HO _ rfl rfl _ _ rfl (by repeat first | apply Sto.head | apply Sto.tail | apply Patch.put | apply Patch.skip | apply Patch.done) rfl ?_) | (refine own_at_store 4 ?_; refine st_0 HO (.bool _) rfl rfl _ _ rfl (by repeat first | apply Sto.head | apply Sto.tail | apply Patch.put | apply Patch.skip | apply Patch.done) rfl ?_) | (refine own_at_store 3 ?_; refine st_1 HO (.int .i64 _) rfl rfl _ _ rfl (by repeat first | apply Sto.head | apply Sto.tail | apply Patch.put | apply Patch.skip | apply Patch.done) rfl ?_) | (refine own_at_store 30 ?_; refine st_2 HO (.slice _ _ _) rfl rfl _ _ rfl (by repeat first | apply Sto.head | apply Sto.tail | apply Patch.put | apply Patch.skip | apply Patch.done) rfl ?_) | (refine own_at_store 5 ?_; refine st_3a HO (.int .u8 _) rfl rfl _ _ rfl (by repeat first | apply Sto.head | apply Sto.tail | apply Patch.put | apply Patch.skip | apply Patch.done) rfl ?_)); intro WB HOn; clear HO; have HO := HOn; clear HOn))
                              | (with_reducible refine own_at_load 37 ?_; refine wpList_own_elem rfl 37 _ rfl HO _ Try.underlying37 rfl oinfo_3a 1 _ _ xs rfl acL_len (by decide) q _ HX.out rfl _ rfl ?_)
                              | (go_at_call 14; refine (frozen_f _ _ _ _ _ _ _ _ _ _ _ _ _ _ _ _ _ _ _ _ _ _).mono ?_; rintro e wc ⟨rfl, hb⟩; have HOn := HO.below hb; clear HO hb; have HO := HOn; clear HOn)
                              | (go_at_call 11; refine (allow_replay_no _ _ _ _ _ _ _ _ _ _ _ _ _ _ _ _ _ _ _ _ (Or.inr rfl) _).mono ?_; rintro e wc ⟨rfl, hb⟩; have HOn := HO.below hb; clear HO hb; have HO := HOn; clear HOn))
                        refine (waiting_at _ _ _ _ _ _ _ _ _ _ _ _ _ _ _ _ _ _ A m c ws b o _ (HW).out (HC).out.1 (HC).out.2 (HA).out (fun hne => ⟨(HO.rng 0 _ _ _ rfl hne).1, (HO.rng 0 _ _ _ rfl hne).2.1⟩) (by omega)).mono ?_
                        rintro e wc ⟨v9, rfl, ho9, hb⟩
                        obtain ⟨g9, ⟨A9, c9, rfl, hn9, hm9, hA9⟩, hr9⟩ := own_row ho9 (by decide)
                        have HOn := HO.pushNew hb g9 0 _ hr9
                        clear HO hb ho9 hr9
                        have HO := HOn
                        clear HOn
                        have hsub : (come : Int) + (m : Int) - (come : Int) = (m : Int) := by omega
                        by_cases hm0 : 0 < m
                        · obtain rfl : A9 = some ⟨g9, 0, none⟩ := hA9 hm0
                          obtain ⟨x, hx⟩ : ∃ x, (ws)[0]? = some x := ⟨_, List.getElem?_eq_getElem (by rw [(HW).out]; exact hm0)⟩
                          have hxn := (HF).out 0 x hx
                          obtain ⟨v0, v1, v2, v3, v4, v5⟩ := x
                          have cw := HO.elemCell inL_len (by decide) 0 _ _ (ws) rfl hx 5 rfl
                          dsimp only at cw hxn
                          simp only [Nat.zero_mul, Nat.add_zero, Nat.zero_add] at cw hxn
                          subst hxn
                          have hmi : (0 : Int) < ((m : Nat) : Int) := by omega
                          have hmn : 0 < m := hm0
                          clear hx hA9
                          go_wp2_with fail
                          go_roundw
                          case rel => exact ⟨q + 1, come, m, c, b, o, A, ⟨⟨d0, d1, d2, d3, d4, d5, d6, d7⟩, false, true, d10, ⟨d11, d12, d13, d14, d15, d16⟩, true⟩, ws, by go_num, rfl, rfl, by omega, by omega, HW, HC, HA, HF, Lib.hid ((HO.tailR).takeL 1)⟩
                          case measure => simp [intOf] <;> omega
                        · have hmi : ¬ (0 : Int) < ((m : Nat) : Int) := by omega
                          clear hA9
                          go_wp2_with fail
                          go_roundw
                          case rel => exact ⟨q + 1, come, m, c, b, o, A, ⟨⟨d0, d1, d2, d3, d4, d5, d6, d7⟩, false, true, d10, ⟨d11, d12, d13, d14, d15, d16⟩, true⟩, ws, by go_num, rfl, rfl, by omega, by omega, HW, HC, HA, HF, Lib.hid ((HO.tailR).takeL 1)⟩
                          case measure => simp [intOf] <;> omega
                      · skip
                        go_wp2_with (first
                              | (with_reducible ((first | (refine own_at_box 32 ?_; refine ob_0 HO _ rfl ?_) | (refine own_at_alloc 32 ?_; refine oa_0 HO ?_) | (refine own_at_box 27 ?_; refine ob_1 HO _ rfl ?_) | (refine own_at_alloc 27 ?_; refine oa_1 HO ?_) | (refine own_at_box 29 ?_; refine ob_2 HO _ rfl ?_) | (refine own_at_alloc 29 ?_; refine oa_2 HO ?_) | (refine own_at_box 37 ?_; refine ob_3a HO _ rfl ?_) | (refine own_at_alloc 37 ?_; refine oa_3a HO ?_) | (refine own_at_box 4 ?_; refine sb_0 HO (.bool _) rfl rfl ?_) | (refine own_at_alloc 4 ?_; refine sa_0 HO ?_) | (refine own_at_box 3 ?_; refine sb_1 HO (.int .i64 _) rfl rfl ?_) | (refine own_at_alloc 3 ?_; refine sa_1 HO ?_) | (refine own_at_box 30 ?_; refine sb_2 HO (.slice _ _ _) rfl rfl ?_) | (refine own_at_alloc 30 ?_; refine sa_2 HO ?_) | (refine own_at_box 5 ?_; refine sb_3a HO (.int .u8 _) rfl rfl ?_) | (refine own_at_alloc 5 ?_; refine sa_3a HO ?_)); intro nB WB HOn; (try simp only [List.cons_append, List.nil_append] at HOn); clear HO; have HO := HOn; clear HOn))
                              | (with_reducible (first | (refine own_at_load 32 ?_; refine op_0 HO rfl _ _ _ _ rfl (by repeat first | apply Has.head | apply Has.tail) (by repeat first | apply Part.done | apply Part.take | apply Part.skip) ?_) | (refine own_at_load 27 ?_; refine op_1 HO rfl _ _ _ _ rfl (by repeat first | apply Has.head | apply Has.tail) (by repeat first | apply Part.done | apply Part.take | apply Part.skip) ?_) | (refine own_at_load 29 ?_; refine op_2 HO rfl _ _ _ _ rfl (by repeat first | apply Has.head | apply Has.tail) (by repeat first | apply Part.done | apply Part.take | apply Part.skip) ?_) | (refine own_at_load 37 ?_; refine op_3a HO rfl _ _ _ _ rfl (by repeat first | apply Has.head | apply Has.tail) (by repeat first | apply Part.done | apply Part.take | apply Part.skip) ?_) | (refine own_at_load 4 ?_; refine sl_0 HO rfl _ _ _ _ rfl (by repeat first | apply Has.head | apply Has.tail) rfl ?_) | (refine own_at_load 3 ?_; refine sl_1 HO rfl _ _ _ _ rfl (by repeat first | apply Has.head | apply Has.tail) rfl ?_) | (refine own_at_load 30 ?_; refine sl_2 HO rfl _ _ _ _ rfl (by repeat first | apply Has.head | apply Has.tail) rfl ?_) | (refine own_at_load 5 ?_; refine sl_3a HO rfl _ _ _ _ rfl (by repeat first | apply Has.head | apply Has.tail) rfl ?_)))
                              | (with_reducible ((first | (refine own_at_store 32 ?_; refine os_0 HO _ rfl rfl _ _ rfl (by repeat first | apply Sto.head | apply Sto.tail | apply Patch.put | apply Patch.skip | apply Patch.done) rfl ?_) | (refine own_at_store 27 ?_; refine os_1 HO _ rfl rfl _ _ rfl (by repeat first | apply Sto.head | apply Sto.tail | apply Patch.put | apply Patch.skip | apply Patch.done) rfl ?_) | (refine own_at_store 29 ?_; refine os_2 HO _ rfl rfl _ _ rfl (by repeat first | apply Sto.head | apply Sto.tail | apply Patch.put | apply Patch.skip | apply Patch.done) rfl ?_) | (refine own_at_store 37 ?_; refine os_3a HO _ rfl rfl _ _ rfl (by repeat first | apply Sto.head | apply Sto.tail | apply Patch.put | apply Patch.skip | apply Patch.done) rfl ?_) | (refine own_at_store 4 ?_; refine st_0 HO (.bool _) rfl rfl _ _ rfl (by repeat first | apply Sto.head | apply Sto.tail | apply Patch.put | apply Patch.skip | apply Patch.done) rfl ?_) | (refine own_at_store 3 ?_; refine st_1 HO (.int .i64 _) rfl rfl _ _ rfl (by repeat first | apply Sto.head | apply Sto.tail | apply Patch.put | apply Patch.skip | apply Patch.done) rfl ?_) | (refine own_at_store 30 ?_; refine st_2 HO (.slice _ _ _) rfl rfl _ _ rfl (by repeat first | apply Sto.head | apply Sto.tail | apply Patch.put | apply Patch.skip | apply Patch.done) rfl ?_) | (refine own_at_store 5 ?_; refine st_3a HO (.int .u8 _) rfl rfl _ _ rfl (by repeat first | apply Sto.head | apply Sto.tail | apply Patch.put | apply Patch.skip | apply Patch.done) rfl ?_)); intro WB HOn; clear HO; have HO := HOn; clear HOn))
                              | (with_reducible refine own_at_load 37 ?_; refine wpList_own_elem rfl 37 _ rfl HO _ Try.underlying37 rfl oinfo_3a 1 _ _ xs rfl acL_len (by decide) q _ HX.out rfl _ rfl ?_)
                              | (go_at_call 14; refine (frozen_f _ _ _ _ _ _ _ _ _ _ _ _ _ _ _ _ _ _ _ _ _ _).mono ?_; rintro e wc ⟨rfl, hb⟩; have HOn := HO.below hb; clear HO hb; have HO := HOn; clear HOn)
                              | (go_at_call 11; refine (allow_replay _ _ _ _ _ _ _ _ _ _ _ _ _ _ _ _ _ _ _).mono ?_; rintro e wc ⟨rfl, hb⟩; have HOn := HO.below hb; clear HO hb; have HO := HOn; clear HOn))
                        refine (waiting_at _ _ _ _ _ _ _ _ _ _ _ _ _ _ _ _ _ _ A m c ws b o _ (HW).out (HC).out.1 (HC).out.2 (HA).out (fun hne => ⟨(HO.rng 0 _ _ _ rfl hne).1, (HO.rng 0 _ _ _ rfl hne).2.1⟩) (by omega)).mono ?_
                        rintro e wc ⟨v9, rfl, ho9, hb⟩
                        obtain ⟨g9, ⟨A9, c9, rfl, hn9, hm9, hA9⟩, hr9⟩ := own_row ho9 (by decide)
                        have HOn := HO.pushNew hb g9 0 _ hr9
                        clear HO hb ho9 hr9
                        have HO := HOn
                        clear HOn
                        have hsub : (come : Int) + (m : Int) - (come : Int) = (m : Int) := by omega
                        by_cases hm0 : 0 < m
                        · obtain rfl : A9 = some ⟨g9, 0, none⟩ := hA9 hm0
                          obtain ⟨x, hx⟩ : ∃ x, (ws)[0]? = some x := ⟨_, List.getElem?_eq_getElem (by rw [(HW).out]; exact hm0)⟩
                          have hxn := (HF).out 0 x hx
                          obtain ⟨v0, v1, v2, v3, v4, v5⟩ := x
                          have cw := HO.elemCell inL_len (by decide) 0 _ _ (ws) rfl hx 5 rfl
                          dsimp only at cw hxn
                          simp only [Nat.zero_mul, Nat.add_zero, Nat.zero_add] at cw hxn
                          subst hxn
                          have hmi : (0 : Int) < ((m : Nat) : Int) := by omega
                          have hmn : 0 < m := hm0
                          clear hx hA9
                          go_wp2_with fail
                          go_roundw
                          case rel => exact ⟨q + 1, come, m, c, b, o, A, ⟨⟨0, 0, false, 0, false, false, 0, 0⟩, false, false, false, ⟨0, 0, 0, 0, 0, 0⟩, false⟩, ws, by go_num, rfl, rfl, by omega, by omega, HW, HC, HA, HF, Lib.hid ((HO.tailR).takeL 1)⟩
                          case measure => simp [intOf] <;> omega
                        · have hmi : ¬ (0 : Int) < ((m : Nat) : Int) := by omega
                          clear hA9
                          go_wp2_with fail
                          go_roundw
                          case rel => exact ⟨q + 1, come, m, c, b, o, A, ⟨⟨0, 0, false, 0, false, false, 0, 0⟩, false, false, false, ⟨0, 0, 0, 0, 0, 0⟩, false⟩, ws, by go_num, rfl, rfl, by omega, by omega, HW, HC, HA, HF, Lib.hid ((HO.tailR).takeL 1)⟩
                          case measure => simp [intOf] <;> omega
      · have hqi : ¬ (q : Int) < N := by omega
        go_wp2_with (first
              | (with_reducible ((first | (refine own_at_box 32 ?_; refine ob_0 HO _ rfl ?_) | (refine own_at_alloc 32 ?_; refine oa_0 HO ?_) | (refine own_at_box 27 ?_; refine ob_1 HO _ rfl ?_) | (refine own_at_alloc 27 ?_; refine oa_1 HO ?_) | (refine own_at_box 29 ?_; refine ob_2 HO _ rfl ?_) | (refine own_at_alloc 29 ?_; refine oa_2 HO ?_) | (refine own_at_box 37 ?_; refine ob_3a HO _ rfl ?_) | (refine own_at_alloc 37 ?_; refine oa_3a HO ?_) | (refine own_at_box 4 ?_; refine sb_0 HO (.bool _) rfl rfl ?_) | (refine own_at_alloc 4 ?_; refine sa_0 HO ?_) | (refine own_at_box 3 ?_; refine sb_1 HO (.int .i64 _) rfl rfl ?_) | (refine own_at_alloc 3 ?_; refine sa_1 HO ?_) | (refine own_at_box 30 ?_; refine sb_2 HO (.slice _ _ _) rfl rfl ?_) | (refine own_at_alloc 30 ?_; refine sa_2 HO ?_) | (refine own_at_box 5 ?_; refine sb_3a HO (.int .u8 _) rfl rfl ?_) | (refine own_at_alloc 5 ?_; refine sa_3a HO ?_)); intro nB WB HOn; (try simp only [List.cons_append, List.nil_append] at HOn); clear HO; have HO := HOn; clear HOn))
              | (with_reducible (first | (refine own_at_load 32 ?_; refine op_0 HO rfl _ _ _ _ rfl (by repeat first | apply Has.head | apply Has.tail) (by repeat first | apply Part.done | apply Part.take | apply Part.skip) ?_) | (refine own_at_load 27 ?_; refine op_1 HO rfl _ _ _ _ rfl (by repeat first | apply Has.head | apply Has.tail) (by repeat first | apply Part.done | apply Part.take | apply Part.skip) ?_) | (refine own_at_load 29 ?_; refine op_2 HO rfl _ _ _ _ rfl (by repeat first | apply Has.head | apply Has.tail) (by repeat first | apply Part.done | apply Part.take | apply Part.skip) ?_) | (refine own_at_load 37 ?_; refine op_3a HO rfl _ _ _ _ rfl (by repeat first | apply Has.head | apply Has.tail) (by repeat first | apply Part.done | apply Part.take | apply Part.skip) ?_) | (refine own_at_load 4 ?_; refine sl_0 HO rfl _ _ _ _ rfl (by repeat first | apply Has.head | apply Has.tail) rfl ?_) | (refine own_at_load 3 ?_; refine sl_1 HO rfl _ _ _ _ rfl (by repeat first | apply Has.head | apply Has.tail) rfl ?_) | (refine own_at_load 30 ?_; refine sl_2 HO rfl _ _ _ _ rfl (by repeat first | apply Has.head | apply Has.tail) rfl ?_) | (refine own_at_load 5 ?_; refine sl_3a HO rfl _ _ _ _ rfl (by repeat first | apply Has.head | apply Has.tail) rfl ?_)))
              | (with_reducible ((first | (refine own_at_store 32 ?_; refine os_0 HO _ rfl rfl _ _ rfl (by repeat first | apply Sto.head | apply Sto.tail | apply Patch.put | apply Patch.skip | apply Patch.done) rfl ?_) | (refine own_at_store 27 ?_; refine os_1 HO _ rfl rfl _ _ rfl (by repeat first | apply Sto.head | apply Sto.tail | apply Patch.put | apply Patch.skip | apply Patch.done) rfl ?_) | (refine own_at_store 29 ?_; refine os_2 HO _ rfl rfl _ _ rfl (by repeat first | apply Sto.head | apply Sto.tail | apply Patch.put | apply Patch.skip | apply Patch.done) rfl ?_) | (refine own_at_store 37 ?_; refine os_3a HO _ rfl rfl _ _ rfl (by repeat first | apply Sto.head | apply Sto.tail | apply Patch.put | apply Patch.skip | apply Patch.done) rfl ?_) | (refine own_at_store 4 ?_; refine st_0 HO (.bool _) rfl rfl _ _ rfl (by repeat first | apply Sto.head | apply Sto.tail | apply Patch.put | apply Patch.skip | apply Patch.done) rfl ?_) | (refine own_at_store 3 ?_; refine st_1 HO (.int .i64 _) rfl rfl _ _ rfl (by repeat first | apply Sto.head | apply Sto.tail | apply Patch.put | apply Patch.skip | apply Patch.done) rfl ?_) | (refine own_at_store 30 ?_; refine st_2 HO (.slice _ _ _) rfl rfl _ _ rfl (by repeat first | apply Sto.head | apply Sto.tail | apply Patch.put | apply Patch.skip | apply Patch.done) rfl ?_) | (refine own_at_store 5 ?_; refine st_3a HO (.int .u8 _) rfl rfl _ _ rfl (by repeat first | apply Sto.head | apply Sto.tail | apply Patch.put | apply Patch.skip | apply Patch.done) rfl ?_)); intro WB HOn; clear HO; have HO := HOn; clear HOn))
              | (go_at_call 10; refine (end_f _ _ _ _ _ _ _ _ _ _ _ _ _ _ _ _ _ _ _ _ _ _).mono ?_; rintro e wc ⟨rfl, hb⟩; have HOn := HO.below hb; clear HO hb; have HO := HOn; clear HOn))
        simp only [Act.put, List.setIfInBounds_toArray, List.set_cons_zero, List.set_cons_succ]
        have H60 : Hid (come + m ≤ 60) := Lib.hid (by omega)
        go_loopw [5] (fun cm wx => ∃ (come' m' c' b' o' : Nat) (A' : Option Addr) (ws' : List In), cm = .int .i64 come' ∧ Hid (come' + m' = come + m) ∧ Hid (ws'.length = m') ∧ Hid (m' ≤ c' ∧ c' ≤ maxLen) ∧ Hid (0 < m' → A' = some ⟨b', o', none⟩) ∧ Hid (FedL ws' come') ∧ Hid (Own w wx [(n0, [i6 0, uw 0, .bool false, i6 0, .bool false, .bool false, i6 0, uw 0, .bool false, .bool false, .bool false, i6 0, i6 0, i6 0, i6 0, uw 0, i6 0, .bool false, .slice A' m' c'])] [(b', o', cellsR inL ws'), (xb, xo, cellsR acL xs)])) (fun cm _ => come + m - (intOf cm).toNat)
        case atStart => exact ⟨come, m, c, b, o, A, ws, rfl, Lib.hid rfl, HW, HC, HA, HF, Lib.hid HO⟩
        case round =>
          clear HO HW HC HA HF
          obtain ⟨come', m', c', b', o', A', ws', rfl, HE, HW, HC, HA, HF, HOH⟩ := hrel
          have HO := HOH.out
          clear HOH
          rcases Nat.eq_zero_or_pos m' with hm | hm
          · subst hm
            have hlt2 : ¬ (come' : Int) < (come : Int) + (m : Int) := by have := HE.out; omega
            go_wp2_with (first
              | (with_reducible ((first | (refine own_at_box 32 ?_; refine ob_0 HO _ rfl ?_) | (refine own_at_alloc 32 ?_; refine oa_0 HO ?_) | (refine own_at_box 27 ?_; refine ob_1 HO _ rfl ?_) | (refine own_at_alloc 27 ?_; refine oa_1 HO ?_) | (refine own_at_box 29 ?_; refine ob_2 HO _ rfl ?_) | (refine own_at_alloc 29 ?_; refine oa_2 HO ?_) | (refine own_at_box 37 ?_; refine ob_3a HO _ rfl ?_) | (refine own_at_alloc 37 ?_; refine oa_3a HO ?_) | (refine own_at_box 4 ?_; refine sb_0 HO (.bool _) rfl rfl ?_) | (refine own_at_alloc 4 ?_; refine sa_0 HO ?_) | (refine own_at_box 3 ?_; refine sb_1 HO (.int .i64 _) rfl rfl ?_) | (refine own_at_alloc 3 ?_; refine sa_1 HO ?_) | (refine own_at_box 30 ?_; refine sb_2 HO (.slice _ _ _) rfl rfl ?_) | (refine own_at_alloc 30 ?_; refine sa_2 HO ?_) | (refine own_at_box 5 ?_; refine sb_3a HO (.int .u8 _) rfl rfl ?_) | (refine own_at_alloc 5 ?_; refine sa_3a HO ?_)); intro nB WB HOn; (try simp only [List.cons_append, List.nil_append] at HOn); clear HO; have HO := HOn; clear HOn))
              | (with_reducible (first | (refine own_at_load 32 ?_; refine op_0 HO rfl _ _ _ _ rfl (by repeat first | apply Has.head | apply Has.tail) (by repeat first | apply Part.done | apply Part.take | apply Part.skip) ?_) | (refine own_at_load 27 ?_; refine op_1 HO rfl _ _ _ _ rfl (by repeat first | apply Has.head | apply Has.tail) (by repeat first | apply Part.done | apply Part.take | apply Part.skip) ?_) | (refine own_at_load 29 ?_; refine op_2 HO rfl _ _ _ _ rfl (by repeat first | apply Has.head | apply Has.tail) (by repeat first | apply Part.done | apply Part.take | apply Part.skip) ?_) | (refine own_at_load 37 ?_; refine op_3a HO rfl _ _ _ _ rfl (by repeat first | apply Has.head | apply Has.tail) (by repeat first | apply Part.done | apply Part.take | apply Part.skip) ?_) | (refine own_at_load 4 ?_; refine sl_0 HO rfl _ _ _ _ rfl (by repeat first | apply Has.head | apply Has.tail) rfl ?_) | (refine own_at_load 3 ?_; refine sl_1 HO rfl _ _ _ _ rfl (by repeat first | apply Has.head | apply Has.tail) rfl ?_) | (refine own_at_load 30 ?_; refine sl_2 HO rfl _ _ _ _ rfl (by repeat first | apply Has.head | apply Has.tail) rfl ?_) | (refine own_at_load 5 ?_; refine sl_3a HO rfl _ _ _ _ rfl (by repeat first | apply Has.head | apply Has.tail) rfl ?_)))
              | (with_reducible ((first | (refine own_at_store 32 ?_; refine os_0 HO _ rfl rfl _ _ rfl (by repeat first | apply Sto.head | apply Sto.tail | apply Patch.put | apply Patch.skip | apply Patch.done) rfl ?_) | (refine own_at_store 27 ?_; refine os_1 HO _ rfl rfl _ _ rfl (by repeat first | apply Sto.head | apply Sto.tail | apply Patch.put | apply Patch.skip | apply Patch.done) rfl ?_) | (refine own_at_store 29 ?_; refine os_2 HO _ rfl rfl _ _ rfl (by repeat first | apply Sto.head | apply Sto.tail | apply Patch.put | apply Patch.skip | apply Patch.done) rfl ?_) | (refine own_at_store 37 ?_; refine os_3a HO _ rfl rfl _ _ rfl (by repeat first | apply Sto.head | apply Sto.tail | apply Patch.put | apply Patch.skip | apply Patch.done) rfl ?_) | (refine own_at_store 4 ?_; refine st_0 HO (.bool _) rfl rfl _ _ rfl (by repeat first | apply Sto.head | apply Sto.tail | apply Patch.put | apply Patch.skip | apply Patch.done) rfl ?_) | (refine own_at_store 3 ?_; refine st_1 HO (.int .i64 _) rfl rfl _ _ rfl (by repeat first | apply Sto.head | apply Sto.tail | apply Patch.put | apply Patch.skip | apply Patch.done) rfl ?_) | (refine own_at_store 30 ?_; refine st_2 HO (.slice _ _ _) rfl rfl _ _ rfl (by repeat first | apply Sto.head | apply Sto.tail | apply Patch.put | apply Patch.skip | apply Patch.done) rfl ?_) | (refine own_at_store 5 ?_; refine st_3a HO (.int .u8 _) rfl rfl _ _ rfl (by repeat first | apply Sto.head | apply Sto.tail | apply Patch.put | apply Patch.skip | apply Patch.done) rfl ?_)); intro WB HOn; clear HO; have HO := HOn; clear HOn))
              | (go_at_call 8; refine (awake39 _).mono ?_; rintro e wc ⟨rfl, hb⟩; have HOn := HO.below hb; clear HO hb; have HO := HOn; clear HOn)
              | (go_at_call 18; refine (next_none _ _ _ _ _ _ _ _ _ _ _ _ _ _ _ _ _ _ _ _).mono ?_; rintro e wc ⟨rfl, hb⟩; have HOn := HO.below hb; clear HO hb; have HO := HOn; clear HOn))
            go_returns
            exact ⟨by first | rfl | (simp; done), HO.q⟩
          · obtain ⟨m', rfl⟩ : ∃ m'', m' = m'' + 1 := ⟨m' - 1, by omega⟩
            have hlt2 : (come' : Int) < (come : Int) + (m : Int) := by have := HE.out; omega
            have hm60 : m' + 1 ≤ 1000 := by have := HE.out; have := H60.out; omega
            have hc60 : come' ≤ 60 := by have := HE.out; have := H60.out; omega
            obtain rfl : A' = some ⟨b', o', none⟩ := HA.out (by omega)
            obtain ⟨x, hx⟩ : ∃ x, ws'[0]? = some x := ⟨_, List.getElem?_eq_getElem (by rw [HW.out]; omega)⟩
            have hxn := HF.out 0 x hx
            obtain ⟨v0, v1, v2, v3, v4, v5⟩ := x
            dsimp only at hxn
            rw [Nat.add_zero] at hxn
            subst hxn
            have HX0 := Lib.hid hx
            clear hx
            go_wp2_with (first
              | (with_reducible ((first | (refine own_at_box 32 ?_; refine ob_0 HO _ rfl ?_) | (refine own_at_alloc 32 ?_; refine oa_0 HO ?_) | (refine own_at_box 27 ?_; refine ob_1 HO _ rfl ?_) | (refine own_at_alloc 27 ?_; refine oa_1 HO ?_) | (refine own_at_box 29 ?_; refine ob_2 HO _ rfl ?_) | (refine own_at_alloc 29 ?_; refine oa_2 HO ?_) | (refine own_at_box 37 ?_; refine ob_3a HO _ rfl ?_) | (refine own_at_alloc 37 ?_; refine oa_3a HO ?_) | (refine own_at_box 4 ?_; refine sb_0 HO (.bool _) rfl rfl ?_) | (refine own_at_alloc 4 ?_; refine sa_0 HO ?_) | (refine own_at_box 3 ?_; refine sb_1 HO (.int .i64 _) rfl rfl ?_) | (refine own_at_alloc 3 ?_; refine sa_1 HO ?_) | (refine own_at_box 30 ?_; refine sb_2 HO (.slice _ _ _) rfl rfl ?_) | (refine own_at_alloc 30 ?_; refine sa_2 HO ?_) | (refine own_at_box 5 ?_; refine sb_3a HO (.int .u8 _) rfl rfl ?_) | (refine own_at_alloc 5 ?_; refine sa_3a HO ?_)); intro nB WB HOn; (try simp only [List.cons_append, List.nil_append] at HOn); clear HO; have HO := HOn; clear HOn))
              | (with_reducible (first | (refine own_at_load 32 ?_; refine op_0 HO rfl _ _ _ _ rfl (by repeat first | apply Has.head | apply Has.tail) (by repeat first | apply Part.done | apply Part.take | apply Part.skip) ?_) | (refine own_at_load 27 ?_; refine op_1 HO rfl _ _ _ _ rfl (by repeat first | apply Has.head | apply Has.tail) (by repeat first | apply Part.done | apply Part.take | apply Part.skip) ?_) | (refine own_at_load 29 ?_; refine op_2 HO rfl _ _ _ _ rfl (by repeat first | apply Has.head | apply Has.tail) (by repeat first | apply Part.done | apply Part.take | apply Part.skip) ?_) | (refine own_at_load 37 ?_; refine op_3a HO rfl _ _ _ _ rfl (by repeat first | apply Has.head | apply Has.tail) (by repeat first | apply Part.done | apply Part.take | apply Part.skip) ?_) | (refine own_at_load 4 ?_; refine sl_0 HO rfl _ _ _ _ rfl (by repeat first | apply Has.head | apply Has.tail) rfl ?_) | (refine own_at_load 3 ?_; refine sl_1 HO rfl _ _ _ _ rfl (by repeat first | apply Has.head | apply Has.tail) rfl ?_) | (refine own_at_load 30 ?_; refine sl_2 HO rfl _ _ _ _ rfl (by repeat first | apply Has.head | apply Has.tail) rfl ?_) | (refine own_at_load 5 ?_; refine sl_3a HO rfl _ _ _ _ rfl (by repeat first | apply Has.head | apply Has.tail) rfl ?_)))
              | (with_reducible ((first | (refine own_at_store 32 ?_; refine os_0 HO _ rfl rfl _ _ rfl (by repeat first | apply Sto.head | apply Sto.tail | apply Patch.put | apply Patch.skip | apply Patch.done) rfl ?_) | (refine own_at_store 27 ?_; refine os_1 HO _ rfl rfl _ _ rfl (by repeat first | apply Sto.head | apply Sto.tail | apply Patch.put | apply Patch.skip | apply Patch.done) rfl ?_) | (refine own_at_store 29 ?_; refine os_2 HO _ rfl rfl _ _ rfl (by repeat first | apply Sto.head | apply Sto.tail | apply Patch.put | apply Patch.skip | apply Patch.done) rfl ?_) | (refine own_at_store 37 ?_; refine os_3a HO _ rfl rfl _ _ rfl (by repeat first | apply Sto.head | apply Sto.tail | apply Patch.put | apply Patch.skip | apply Patch.done) rfl ?_) | (refine own_at_store 4 ?_; refine st_0 HO (.bool _) rfl rfl _ _ rfl (by repeat first | apply Sto.head | apply Sto.tail | apply Patch.put | apply Patch.skip | apply Patch.done) rfl ?_) | (refine own_at_store 3 ?_; refine st_1 HO (.int .i64 _) rfl rfl _ _ rfl (by repeat first | apply Sto.head | apply Sto.tail | apply Patch.put | apply Patch.skip | apply Patch.done) rfl ?_) | (refine own_at_store 30 ?_; refine st_2 HO (.slice _ _ _) rfl rfl _ _ rfl (by repeat first | apply Sto.head | apply Sto.tail | apply Patch.put | apply Patch.skip | apply Patch.done) rfl ?_) | (refine own_at_store 5 ?_; refine st_3a HO (.int .u8 _) rfl rfl _ _ rfl (by repeat first | apply Sto.head | apply Sto.tail | apply Patch.put | apply Patch.skip | apply Patch.done) rfl ?_)); intro WB HOn; clear HO; have HO := HOn; clear HOn))
              | (go_at_call 18; refine (next_at _ _ _ _ _ _ _ _ _ _ _ _ _ _ _ _ _ (m' + 1) c' ws' b' o' _ _ _ _ _ _ _ HW.out HC.out.1 HX0.out (fun hne => ⟨(HO.rng 0 _ _ _ rfl hne).1, (HO.rng 0 _ _ _ rfl hne).2.1⟩) hm60 false false (tailA c' b' o') rfl rfl rfl).mono ?_; rintro e wc ⟨rfl, hb⟩; have HOn := (HO.below hb).dropHead inL_len (by decide) 1 (o' + 6) (ws'.drop 1) (by omega) rfl; clear HO hb; have HO := HOn; clear HOn))
            go_roundw
            case rel => exact ⟨come' + 1, m', c' - 1, b', o' + 6, tailA c' b' o', ws'.drop 1, by go_num, Lib.hid (by have := HE.out; omega), Lib.hid (by rw [List.length_drop, HW.out]; rfl), Lib.hid (by have := HC.out; omega), Lib.hid (fun h => by have := HC.out; unfold tailA; rw [if_neg (by omega)]), Lib.hid (fedL_tail HF.out), Lib.hid (HO.takeL 1)⟩
            case measure => (have := HE.out; simp [intOf] <;> omega)
end Go.Proofs.Ytgcedookbblibaa
