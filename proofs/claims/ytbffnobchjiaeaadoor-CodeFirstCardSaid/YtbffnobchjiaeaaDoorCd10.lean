/- Layer 3: the document's tables; its names and forms. -/
import Derived.Test.YtbffnobchjiaeaaDoorCd9
namespace Go.Proofs.YtbffnobchjiaeaaDoor
open Go Go.RowKit
set_option linter.unusedSimpArgs false
set_option linter.unusedVariables false
theorem len_map (l : List B8) : (l.map strV).length = l.length := List.length_map _
set_option maxRecDepth 100000 in
theorem requests_any (w : World) : Calls Tryd.prog 29 #[] w fun e w' => e = .returned (.slice (some ⟨w.heap.size, 0, none⟩) 58 58) ∧ LayW w' w.heap.size (reqL.map strV) ∧ Below w.heap.size w w' := by
  have hl := LayW.new w (reqL.map strV) 9
  have hq : Below w.heap.size w (w.alloc (.cells (reqL.map strV).toArray 9)) := (Below.refl _ _).alloc (Nat.le_refl _) _
  generalize hT : w.alloc (.cells (reqL.map strV).toArray 9) = W1 at hl hq
  have HT := Lib.hid hT
  have HL := Lib.hid hl
  clear hT hl
  go_enter Tryd.func29, Tryd.ntmps29
  go_wp2_with fail
  refine body_world (fun W => W = W1) (by rw [← HT.out]; kernel_rfl) ?_
  intro W9 hW9
  subst hW9
  go_returns
  exact ⟨rfl, HL.out, hq⟩
set_option maxRecDepth 100000 in
theorem events_any (w : World) : Calls Tryd.prog 33 #[] w fun e w' => e = .returned (.slice (some ⟨w.heap.size, 0, none⟩) 25 25) ∧ LayW w' w.heap.size (evL.map strV) ∧ Below w.heap.size w w' := by
  have hl := LayW.new w (evL.map strV) 9
  have hq : Below w.heap.size w (w.alloc (.cells (evL.map strV).toArray 9)) := (Below.refl _ _).alloc (Nat.le_refl _) _
  generalize hT : w.alloc (.cells (evL.map strV).toArray 9) = W1 at hl hq
  have HT := Lib.hid hT
  have HL := Lib.hid hl
  clear hT hl
  go_enter Tryd.func33, Tryd.ntmps33
  go_wp2_with fail
  refine body_world (fun W => W = W1) (by rw [← HT.out]; kernel_rfl) ?_
  intro W9 hW9
  subst hW9
  go_returns
  exact ⟨rfl, HL.out, hq⟩
set_option maxRecDepth 100000 in
theorem replies_any (w : World) : Calls Tryd.prog 32 #[] w fun e w' => e = .returned (.slice (some ⟨w.heap.size, 0, none⟩) 58 58) ∧ LayW w' w.heap.size (repL.map strV) ∧ Below w.heap.size w w' := by
  have hl := LayW.new w (repL.map strV) 9
  have hq : Below w.heap.size w (w.alloc (.cells (repL.map strV).toArray 9)) := (Below.refl _ _).alloc (Nat.le_refl _) _
  generalize hT : w.alloc (.cells (repL.map strV).toArray 9) = W1 at hl hq
  have HT := Lib.hid hT
  have HL := Lib.hid hl
  clear hT hl
  go_enter Tryd.func32, Tryd.ntmps32
  go_wp2_with fail
  refine body_world (fun W => W = W1) (by rw [← HT.out]; kernel_rfl) ?_
  intro W9 hW9
  subst hW9
  go_returns
  exact ⟨rfl, HL.out, hq⟩
end Go.Proofs.YtbffnobchjiaeaaDoor
