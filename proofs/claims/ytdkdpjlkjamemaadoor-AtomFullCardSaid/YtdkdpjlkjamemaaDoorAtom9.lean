/- Layer 9: Intern whole; All. -/
import Derived.Test.YtdkdpjlkjamemaaDoorAtom8
import Derived.Deep.RegionWith
import Derived.Deep.RegionLaw
import Derived.Deep.AppendLies
namespace Go.Proofs.YtdkdpjlkjamemaaDoor
open Go Go.RowKit Go.Maps
set_option linter.unusedSimpArgs false
set_option linter.unusedVariables false

theorem TabOf.forms {w : World} {sv mv : Value} {more : List B} (h : TabOf w sv mv more) : ∃ a cap m, sv = .slice a more.length cap ∧ mv = .map m := by
  rcases h with ⟨rfl, rfl, rfl⟩ | ⟨_, ⟨b, off, cap, rfl, _⟩, mb, D, rfl, _⟩
  · exact ⟨_, _, _, rfl, rfl⟩
  · exact ⟨_, _, _, rfl, rfl⟩
theorem intern_any (sv mv : Value) (more : List B) (s : B) (only : Bool) (w : World) (hs : RowAt 0 knownCells w) (hsl : s.length ≤ 100000) (hml : more.length ≤ 100000) (hT : TabOf w sv mv more) :
    Calls Tryd.prog 12 #[.agg #[sv, mv], strV s, .bool only] w fun e w' => ∃ sv' mv', e = .returned (.tuple #[.agg #[sv', mv'], u3 (internL more s only).2.1, i6 (internL more s only).2.2]) ∧ TabOf w' sv' mv' (internL more s only).1 ∧ Below w.heap.size w w' ∧ ((sv' = sv ∧ mv' = mv) ∨ (VLo w.heap.size sv' ∧ MLo w.heap.size mv')) := by
  obtain ⟨a, cap, m, rfl, rfl⟩ := hT.forms
  unfold internL
  by_cases h1 : nameB s = false
  · rw [if_pos h1]
    exact (intern_bad a _ cap m more s only w hs hsl hml rfl hT h1).mono fun e w' ⟨he, hb⟩ => ⟨_, _, he, hT.below hb, hb, Or.inl ⟨rfl, rfl⟩⟩
  · have h1' : nameB s = true := by simpa using h1
    rw [if_neg h1]
    by_cases h2 : numT more s ≠ 0
    · rw [if_pos h2]
      exact (intern_found a _ cap m more s only w hs hsl hml rfl hT (numT more s) h1' rfl h2).mono fun e w' ⟨he, hb⟩ => ⟨_, _, he, hT.below hb, hb, Or.inl ⟨rfl, rfl⟩⟩
    · have h2' : numT more s = 0 := by omega
      rw [if_neg h2]
      cases only with
      | true => exact (intern_only a _ cap m more s true w hs hsl hml rfl hT h1' h2' rfl).mono fun e w' ⟨he, hb⟩ => ⟨_, _, he, hT.below hb, hb, Or.inl ⟨rfl, rfl⟩⟩
      | false =>
        rw [if_neg (by simp)]
        by_cases h3 : 1024 ≤ 10 + more.length
        · rw [if_pos h3]
          exact (intern_full a _ cap m more s false w hs hsl hml rfl hT h1' h2' rfl h3).mono fun e w' ⟨he, hb⟩ => ⟨_, _, he, hT.below hb, hb, Or.inl ⟨rfl, rfl⟩⟩
        · rw [if_neg h3]
          have hT' := hT
          rcases hT' with ⟨rfl, e1, e2⟩ | ⟨h0, ⟨b, off, cap', e1, _, _, _, hL⟩, mb, D, e2, hO, hM⟩
          · rw [e1, e2]
            exact (intern_new_nil s w hs hsl h2' h1').mono fun e w' ⟨sv', mv', he, ht, hb, h3, h4⟩ => ⟨sv', mv', he, ht, hb, Or.inr ⟨h3, h4⟩⟩
          · rw [e1, e2] at hT ⊢
            exact (intern_new_own s w hs hsl b off _ cap' mb more D (by omega) rfl h0 hL hO hM hT h2' h1').mono fun e w' ⟨sv', mv', he, ht, hb, h3, h4⟩ => ⟨sv', mv', he, ht, hb, Or.inr ⟨h3, h4⟩⟩

theorem below_drew {w w' : World} (h : Below w.drew.heap.size w.drew w') : Below w.heap.size w w' := (Below.refl _ _).drew.trans h
section
variable {P : Program}
theorem step_append_own {w : World} {ops : Array Oper} {o : Oper} {a : Act} {K : Act → World → Prop} {Q : Exit → Act → World → Prop} {E : Prop} (hgd : o.guard = none) (s x : Operand) (t : TypeId)
    (ho : o.op = .call { callee := .builtin .append, args := #[s, x], argTypes := #[t, t] })
    (base : Nat) (e : TypeId) (i : TypeInfo) (z : Value) (size bytes : Nat) (ht : P.underlying t = some (.slice e)) (hi : P.info? e = some i) (hz : i.zero = some z)
    (hsize : i.size = size) (hby : i.bytes = bytes) (hzs : z.cells.size = size) (hsz : 0 < size)
    (v : Value) (n : Nat) (xs : List Value) (hs : a.eval s = v) (hown : w.ownsRow base e size v n xs)
    (ad : Addr) (m c : Nat) (news : List Value) (hx : a.eval x = .slice (some ad) m c) (hl : news.length = m * size) (hnews : ∀ j u, news[j]? = some u → w.cell? (ad.add j) = some u) (h1 : ∀ u ∈ news, u.oneCell' = true)
    (h63 : n + m ≤ maxLen) (hbytes : (n + m) * bytes ≤ 140737488355328) (hbase : base ≤ w.heap.size)
    (h : ∀ v' w', w'.ownsRow base e size v' (n + m) (xs ++ news) → w.grownBy w' v.ownBlock → K (a.put o.dst v') w') :
    if Region.wanted o (yielded ops a.tmps) = true then Oper.wp P o a w K Q else E := by
  have hw : Region.wanted o (yielded ops a.tmps) = true := by simp [Region.wanted, hgd]
  rw [if_pos hw]
  exact wp_append_own w s x t ho base e i z size bytes ht hi hz hsize hby hzs hsz v n xs hs hown ad m c news hx hl hnews h1 h63 hbytes hbase fun v' w' h2 h3 _ => h v' w' h2 h3
theorem step_append_none {w : World} {ops : Array Oper} {o : Oper} {a : Act} {K : Act → World → Prop} {Q : Exit → Act → World → Prop} {E : Prop} (hgd : o.guard = none) (s x : Operand) (t : TypeId)
    (ho : o.op = .call { callee := .builtin .append, args := #[s, x], argTypes := #[t, t] })
    (base : Nat) (e : TypeId) (i : TypeInfo) (size : Nat) (ht : P.underlying t = some (.slice e)) (hi : P.info? e = some i)
    (v : Value) (n : Nat) (xs : List Value) (hs : a.eval s = v) (hown : w.ownsRow base e size v n xs) (hx : a.eval x = .slice none 0 0)
    (h : K (a.put o.dst v) w) : if Region.wanted o (yielded ops a.tmps) = true then Oper.wp P o a w K Q else E := by
  have hw : Region.wanted o (yielded ops a.tmps) = true := by simp [Region.wanted, hgd]
  rw [if_pos hw]
  have hrun := run_append_owned_none (P := P) (w := w) base t o.type e i size ht hi v n xs hown
  unfold Oper.wp
  simp [execOp, ho, resolve, invoke, builtin, hs, hx, hrun, Result.andThen]
  exact h
end
set_option maxRecDepth 100000 in
set_option maxHeartbeats 4000000 in
theorem all_some (b off n cap : Nat) (mv : Value) (more : List B) (w : World) (hs : RowAt 0 knownCells w) (hn : more.length = n) (hml : n ≤ 100000) (hl : LayS w b off more) (hmv : mv.oneCell' = true) :
    Calls Tryd.prog 15 #[.agg #[.slice (some ⟨b, off, none⟩) n cap, mv]] w fun e w' => ∃ v, e = .returned v ∧ OwnS w' w.heap.size v (knownL ++ more) ∧ Below w.heap.size w w' := by
  have HS := Lib.hid hs
  have hcs0 : ∀ j u, (more.map strV)[j]? = some u → w.cell? ((⟨b, off, none⟩ : Addr).add j) = some u := by
    intro j u hj
    rw [List.getElem?_map, Option.map_eq_some_iff] at hj
    obtain ⟨s, hs, rfl⟩ := hj
    have : (⟨b, off, none⟩ : Addr).add j = ⟨b, off + j, none⟩ := by unfold Addr.add; split <;> simp_all
    rw [this]
    exact hl j s hs
  have HCS := Lib.hid hcs0
  have hones : ∀ u ∈ more.map strV, u.oneCell' = true := by
    intro u hu
    obtain ⟨s, _, rfl⟩ := List.mem_map.1 hu
    rfl
  have HON := Lib.hid hones
  have hlm : (more.map strV).length = n * 1 := by simp [hn]
  have HLM := Lib.hid hlm
  have hfin : (knownL ++ more).length = knownL.length + n := by rw [List.length_append, hn]
  have HF := Lib.hid hfin
  have hmap : (knownL ++ more).map strV = knownL.map strV ++ more.map strV := List.map_append ..
  have HMA := Lib.hid hmap
  obtain ⟨i0, hi, hz0, hz1, hz2⟩ := info_parts info_str
  clear hs hl hn hcs0 hones hlm hfin hmap
  go_enter Tryd.func15, Tryd.ntmps15
  go_upto_region 1 with fail
  refine code_world (fun W => Below w.heap.size w W ∧ Blk W w.heap.size [.slice (some ⟨b, off, none⟩) n cap, mv]) ⟨by (repeat' (first | with_reducible exact Below.refl _ _ | with_reducible assumption | with_reducible refine q_alloc ?_ _ | with_reducible refine q_drew ?_ | with_reducible refine q_drewN _ ?_ | with_reducible refine q_setCell ?_ ?_ _ | (left; simp; done) | (right; simp; done) | (right; dsimp only; omega) | (left; dsimp only; omega))), Blk.new rfl⟩ ?_
  intro W1 ⟨hq1, b0⟩
  have c0 := b0.cell 0 rfl
  have c1 := b0.cell 1 rfl
  have z0 := b0.lt
  clear b0
  go_cut [2] from 3 (fun sv wx => OwnS wx w.heap.size sv (knownL ++ more) ∧ Below w.heap.size w wx)
  case first =>
    go_region_law (first
      | (refine step_append_own rfl _ _ 22 rfl w.heap.size 9 i0 (.string ⟨#[]⟩) 1 16 und_strs hi hz0 hz1 hz2 rfl (by decide) _ knownL.length (knownL.map strV) rfl hkv ⟨b, off, none⟩ n cap (more.map strV) rfl HLM.out (fun j u hj => cell_below hq5 (HCS.out j u hj)) HON.out (by unfold maxLen; show 10 + n ≤ _; omega) (by show (10 + n) * 16 ≤ _; omega) hq5.size ?_; intro vv wv hvv hgr; have hqv : Below w.heap.size w wv := hq5.grown hgr hq5.size (fun j hj => (hkv.lt j hj).1); have hfv : OwnS wv w.heap.size vv (knownL ++ more) := (by unfold OwnS; rw [HF.out, HMA.out]; exact hvv))
      | (go_simp; go_at_call 20; refine (known_any _ ?_).mono ?_; (first | exact HS.out.below hq1 | exact (HS.out.below hq1).drew); rintro e w5 ⟨kv, rfl, hkv0, hb⟩; have hb' : Below W1.heap.size W1 w5 := (by first | exact hb | exact below_drew hb); have hkv : OwnS w5 w.heap.size kv knownL := Joins.ownsRow_le hkv0 hq1.size; have hq5 := q_step hq1 hb'; replace c0 := cell_below hb' c0; replace z0 := block_lt_of_cell c0; clear hb hb' hkv0 c1))
    all_goals (go_wp2_with fail; go_meet; exact ⟨hfv, hqv⟩)
  case rest =>
    obtain ⟨hv, hq⟩ := hcut
    go_wp2_with fail
    go_returns
    exact ⟨_, rfl, hv, hq⟩
set_option maxRecDepth 100000 in
set_option maxHeartbeats 4000000 in
theorem all_nil (w : World) (hs : RowAt 0 knownCells w) :
    Calls Tryd.prog 15 #[.agg #[.slice none 0 0, .map none]] w fun e w' => ∃ v, e = .returned v ∧ OwnS w' w.heap.size v knownL ∧ Below w.heap.size w w' := by
  have HS := Lib.hid hs
  obtain ⟨i0, hi, hz0, hz1, hz2⟩ := info_parts info_str
  clear hs
  go_enter Tryd.func15, Tryd.ntmps15
  go_upto_region 1 with fail
  refine code_world (fun W => Below w.heap.size w W ∧ Blk W w.heap.size [.slice none 0 0, .map none]) ⟨by (repeat' (first | with_reducible exact Below.refl _ _ | with_reducible assumption | with_reducible refine q_alloc ?_ _ | with_reducible refine q_drew ?_ | with_reducible refine q_drewN _ ?_ | with_reducible refine q_setCell ?_ ?_ _ | (left; simp; done) | (right; simp; done) | (right; dsimp only; omega) | (left; dsimp only; omega))), Blk.new rfl⟩ ?_
  intro W1 ⟨hq1, b0⟩
  have c0 := b0.cell 0 rfl
  have c1 := b0.cell 1 rfl
  have z0 := b0.lt
  clear b0
  go_cut [2] from 3 (fun sv wx => OwnS wx w.heap.size sv knownL ∧ Below w.heap.size w wx)
  case first =>
    go_region_law (first
      | (refine step_append_none rfl _ _ 22 rfl w.heap.size 9 i0 1 und_strs hi _ knownL.length (knownL.map strV) rfl hkv rfl ?_)
      | (go_simp; go_at_call 20; refine (known_any _ ?_).mono ?_; (first | exact HS.out.below hq1 | exact (HS.out.below hq1).drew); rintro e w5 ⟨kv, rfl, hkv0, hb⟩; have hb' : Below W1.heap.size W1 w5 := (by first | exact hb | exact below_drew hb); have hkv : OwnS w5 w.heap.size kv knownL := Joins.ownsRow_le hkv0 hq1.size; have hq5 := q_step hq1 hb'; replace c0 := cell_below hb' c0; replace z0 := block_lt_of_cell c0; clear hb hb' hkv0 c1))
    all_goals (go_wp2_with fail; go_meet; exact ⟨hkv, hq5⟩)
  case rest =>
    obtain ⟨hv, hq⟩ := hcut
    go_wp2_with fail
    go_returns
    exact ⟨_, rfl, hv, hq⟩

theorem all_any (sv mv : Value) (more : List B) (w : World) (hs : RowAt 0 knownCells w) (hml : more.length ≤ 100000) (hT : TabOf w sv mv more) :
    Calls Tryd.prog 15 #[.agg #[sv, mv]] w fun e w' => ∃ v, e = .returned v ∧ IsStrs w' v (knownL ++ more) ∧ Below w.heap.size w w' := by
  rcases hT with ⟨rfl, rfl, rfl⟩ | ⟨_, ⟨b, off, cap, rfl, _, _, _, hL⟩, mb, D, rfl, _⟩
  · rw [List.append_nil]
    exact (all_nil w hs).mono fun _ _ ⟨v, he, ho, hb⟩ => ⟨v, he, ownS_is ho, hb⟩
  · exact (all_some b off _ cap _ more w hs rfl hml hL rfl).mono fun _ _ ⟨v, he, ho, hb⟩ => ⟨v, he, ownS_is ho, hb⟩
theorem lent_any (sv mv : Value) (more : List B) (w : World) (hml : more.length ≤ 100000) (hT : TabOf w sv mv more) :
    Calls Tryd.prog 16 #[.agg #[sv, mv]] w fun e w' => e = .returned (i6 ((knownL ++ more).length : Int)) ∧ Below w.heap.size w w' := by
  obtain ⟨a, cap, m, rfl, rfl⟩ := hT.forms
  have : (((knownL ++ more).length : Nat) : Int) = ((10 + more.length : Nat) : Int) := by rw [List.length_append]; rfl
  rw [this]
  exact len_any a _ cap _ w hml
/-- A table none of whose blocks is older than that. -/
def TabLo (lo : Nat) (w : World) (sv mv : Value) (more : List B) : Prop := TabOf w sv mv more ∧ VLo lo sv ∧ MLo lo mv
theorem TabLo.below {lo : Nat} {w w' : World} {sv mv : Value} {more : List B} (h : TabLo lo w sv mv more) (hb : Below w.heap.size w w') : TabLo lo w' sv mv more := ⟨h.1.below hb, h.2⟩
theorem TabLo.set {lo c j : Nat} {w : World} {sv mv u : Value} {more : List B} (h : TabLo lo w sv mv more) (hc : c < lo) : TabLo lo (w.setCell ⟨c, j, none⟩ u) sv mv more := by
  refine ⟨?_, h.2⟩
  rcases h.1 with h1 | ⟨h0, ⟨b, off, cap, e1, h2, h3, h4, h5⟩, mb, D, e2, h7, h8⟩
  · exact Or.inl h1
  · have hbl := h.2.1 _ _ _ _ e1
    have hml := h.2.2 _ e2
    refine Or.inr ⟨h0, ⟨b, off, cap, e1, h2, h3, by simpa [World.setCell] using h4, fun k s hk => ?_⟩, mb, D, e2, h7.setCell (a := ⟨c, j, none⟩) (by show mb ≠ c; omega) u, h8⟩
    exact set_far (h5 k s hk) (blk_ne (by omega))
def StrLo (lo : Nat) (w : World) (v : Value) (l : List B) : Prop := IsStrs w v l ∧ VLo lo v
theorem StrLo.below {lo : Nat} {w w' : World} {v : Value} {l : List B} (h : StrLo lo w v l) (hb : Below w.heap.size w w') : StrLo lo w' v l := ⟨h.1.below hb, h.2⟩
theorem StrLo.set {lo c j : Nat} {w : World} {v u : Value} {l : List B} (h : StrLo lo w v l) (hc : c < lo) : StrLo lo (w.setCell ⟨c, j, none⟩ u) v l := by
  refine ⟨?_, h.2⟩
  rcases h.1 with h1 | ⟨b, off, cap, e1, h2, h3, h4, h5, h6⟩
  · exact Or.inl h1
  · have hbl := h.2 _ _ _ _ e1
    refine Or.inr ⟨b, off, cap, e1, h2, h3, h4, by simpa [World.setCell] using h5, fun k s hk => ?_⟩
    exact set_far (h6 k s hk) (blk_ne (by omega))
theorem tab_zero {lo : Nat} (w : World) : TabLo lo w (.slice none 0 0) (.map none) [] := ⟨Or.inl ⟨rfl, rfl, rfl⟩, fun _ _ _ _ e => by simp at e, fun _ e => by simp at e⟩
theorem ownS_lo {w : World} {base : Nat} {v : Value} {l : List B} (h : OwnS w base v l) : StrLo base w v l := by
  refine ⟨ownS_is h, fun b off n cap e => ?_⟩
  subst e
  exact (h.lt b rfl).1
/-- The name of an atom. -/
def nameL (l : List B) (g : Int) : B × Bool := if 1 ≤ g ∧ g ≤ (l.length : Int) then (l.getD (g.toNat - 1) [], true) else ([], false)
theorem name_any (sv mv : Value) (more : List B) (g : Int) (w : World) (hs : RowAt 0 knownCells w) (hml : more.length ≤ 100000) (hT : TabOf w sv mv more) (h0 : 0 ≤ g) (h1 : g < 4294967296) :
    Calls Tryd.prog 17 #[.agg #[sv, mv], u3 g] w fun e w' => e = .returned (.tuple #[strV (nameL (knownL ++ more) g).1, .bool (nameL (knownL ++ more) g).2]) ∧ Below w.heap.size w w' := by
  have hT' := hT
  obtain ⟨a, cap, m, e1, e2⟩ := hT.forms
  have hlen : (knownL ++ more).length = 10 + more.length := by rw [List.length_append]; rfl
  unfold nameL
  by_cases hg : 1 ≤ g ∧ g ≤ (((knownL ++ more).length : Nat) : Int)
  · rw [if_pos hg]
    rw [hlen] at hg
    by_cases hk : g ≤ 10
    · subst e1 e2
      obtain ⟨k, rfl⟩ : ∃ k : Nat, g = (k : Int) + 1 := ⟨(g - 1).toNat, by omega⟩
      refine name_known a _ cap _ k w hs hml (by omega) _ ?_
      rw [show ((k : Int) + 1).toNat - 1 = k by omega]
      simp only [List.getD_eq_getElem?_getD]
      rw [List.getElem?_append_left (by show k < 10; omega)]
    · obtain ⟨k, rfl⟩ : ∃ k : Nat, g = (k : Int) + 11 := ⟨(g - 11).toNat, by omega⟩
      rcases hT' with ⟨rfl, _, _⟩ | ⟨_, ⟨b, off, cap', rfl, _, _, _, hL⟩, mb, D, rfl, _⟩
      · simp at hg; omega
      · have hkl : k < more.length := by omega
        have hnm : (knownL ++ more).getD (((k : Int) + 11).toNat - 1) [] = more[k] := by
          rw [show ((k : Int) + 11).toNat - 1 = 10 + k by omega]
          simp only [List.getD_eq_getElem?_getD]
          rw [List.getElem?_append_right (by show 10 ≤ 10 + k; omega)]
          rw [show 10 + k - knownL.length = k by show 10 + k - 10 = k; omega]
          rw [List.getElem?_eq_getElem hkl]; rfl
        rw [hnm]
        exact name_more b off _ cap' _ k w hml hkl _ (hL k _ (List.getElem?_eq_getElem hkl))
  · rw [if_neg hg]
    rw [hlen] at hg
    subst e1 e2
    exact name_no a _ cap _ g w hml h0 h1 (by omega)
end Go.Proofs.YtdkdpjlkjamemaaDoor
