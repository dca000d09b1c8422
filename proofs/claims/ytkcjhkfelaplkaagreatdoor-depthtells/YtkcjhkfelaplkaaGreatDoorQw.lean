/-
  WALKS OF LAYER 12: the document's Reach (what Sorted does is handed in).
-/
import Derived.Test.YtkcjhkfelaplkaaGreatDoorQv
import Derived.Test.YtkcjhkfelaplkaaGreatDoorQa
set_option linter.unusedVariables false
set_option linter.unusedSimpArgs false
set_option maxHeartbeats 8000000
set_option maxRecDepth 100000
namespace Go.Proofs.YtkcjhkfelaplkaaGreatDoor
open Go.RowKit
def SortedP (I : List (List UInt8)) (w : World) (r : Ending) (w' : World) : Prop :=
 ∃ v' I', r = .returned v' ∧ IdsAt w' v' I' ∧ Gr.Up I' ∧ (∀ x, x ∈ I' ↔ x ∈ I) ∧ Below w.heap.size w w'
theorem IdsAt.kept {w w' : World} {v : Value} {I : List (List UInt8)} (h : IdsAt w v I) (hs : ∀ g, v.ownBlock = some g → g < w.heap.size → w'.heap[g]? = w.heap[g]?) : IdsAt w' v I := by
 obtain ⟨ao, cap, rfl⟩ := RowsAt.form h
 exact RowsAt.moved h (by decide) (fun _ a ha hl => hs a.block (by rw [ha]; rfl) hl)
namespace R
end R
end Go.Proofs.YtkcjhkfelaplkaaGreatDoor
