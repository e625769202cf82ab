/- The row's last step where the walk's frame is 'Below': what was there before the call is as it was; new blocks may bear marks. -/
import Derived.Below
import Derived.ChangeSame
import Derived.Stop.LaidErr
namespace Go.Proofs.Ytgcedookbblibaa
open Go Go.RowKit Go.WideShapes Go.ChangeShapes
section
variable {H : Type} {enc : TypeId × Value → H} {P : Program}
theorem post_below {f : Func} {s : ChangeSpec} {apart fresh handsOn again : Bool} {W W' : World} {args : Array Value} {v : Value} {ds gs : List (DataW H)} {before pa pv : List MemPlace}
    (hW : DataW.Whole enc P f.params.toList s.vars apart W args.toList ds gs before)
    (hres : ∀ (b : Nat) (sp : Nat → Bool) (hd : Bool), DataW.TrodAll enc P W' b sp hd f.resultTypes.toList (v.resultList f.resultTypes.size) (s.fn H (ds ++ gs)).results [])
    (hargs : ∀ sp : Nat → Bool, (∀ p ∈ before, sp p.block = true) → DataW.TrodAll enc P W' 0 sp true f.params.toList args.toList (s.fn H (ds ++ gs)).args pa)
    (hvars : ∀ sp : Nat → Bool, (∀ p ∈ before, sp p.block = true) → DataW.TrodVars enc P W' sp s.vars (s.fn H (ds ++ gs)).vars pv)
    (hps : before = pa ++ pv) (hb : Below W.heap.size W W')
    (hok : ∀ (j : Nat) (t : TypeId) (r : Value), f.resultTypes[j]? = some t → (v.resultList f.resultTypes.size)[j]? = some r → Value.okWide P W' .any 0 t r) :
    s.post enc P f apart fresh handsOn again W args v W' := by
  have lt : ∀ p ∈ before, p.block < W.heap.size := fun p hp => hW.lt p hp
  have old : ∀ p ∈ before, decide (p.block < W.heap.size) = true := fun p hp => decide_eq_true (lt p hp)
  have keep : W.keptBut W' (fun p => p ∈ before ∧ p ∈ [] ++ pa ++ pv ∨ p ∈ before ∧ p ∈ pa ++ pv) := hb.frame _
  refine ⟨ds, gs, before, [], pa, pv, hW, hres _ _ _, hargs (fun b => decide (b < W.heap.size)) old, hvars _ old, World.keptBut_mono (fun p hp => ?_) keep, fun _ => ?_⟩
  · have hin : p ∈ before := hp.elim And.left And.left
    refine ⟨hin, Or.inr ?_⟩
    rw [hps] at hin
    exact List.mem_append.1 hin
  · obtain ⟨_, _, _, _, _, hz, hn⟩ := hW
    have ha := hargs (fun _ => true) (fun _ _ => rfl)
    have hv := hvars (fun _ => true) (fun _ _ => rfl)
    refine ⟨hok, _, _, ([] ++ pa) ++ pv, ⟨[] ++ pa, pv, trodAll_append ha (hres _ _ _), hv, rfl, fun b off hp => ?_, fun hap => ?_⟩, fun p hp _ => ?_⟩
    · have hin : MemPlace.cell b off ∈ before := by rw [hps]; exact hp
      exact (hb.frozen (lt _ hin)).trans (hz b off hin)
    · have := hn hap
      rw [hps] at this
      exact this
    · rw [hps]; exact hp
end
theorem laidTail {P : Program} {x : String × DataW Unit} {r : List (String × DataW Unit)} {w : World} (h : laidMet P (x :: r) w) : laidMet P r w := laidMet.tail h
end Go.Proofs.Ytgcedookbblibaa
