/-
  WALKS OF LAYER 12: a candidate pushed onto its row, and taken off it.
-/
import Derived.Test.YtkcjhkfelaplkaaGreatDoorRb
import Derived.Test.YtkcjhkfelaplkaaGreatDoorQa
set_option linter.unusedVariables false
set_option linter.unusedSimpArgs false
set_option maxHeartbeats 8000000
set_option maxRecDepth 100000
section
namespace Go.Proofs.YtkcjhkfelaplkaaGreatDoor
open Go.RowKit Go.Sort
structure Ch (w w' : World) (b : Nat) (v : Value) : Prop where
 os : w'.os = w.os
 tape : w'.tape = w.tape
 output : w'.output = w.output
 size : w.heap.size ≤ w'.heap.size
 block : ∀ g, g < w.heap.size → g ≠ b → v.ownBlock ≠ some g → w'.heap[g]? = w.heap[g]?
def Nx (w : World) (v v' : Value) : Prop := v'.ownBlock = v.ownBlock ∨ ∀ g, v'.ownBlock = some g → w.heap.size ≤ g
theorem Nx.refl (w : World) (v : Value) : Nx w v v := .inl rfl
theorem Nx.trans {w w1 : World} {v v1 v2 : Value} (h : Nx w v v1) (h2 : Nx w1 v1 v2) (hs : w.heap.size ≤ w1.heap.size) : Nx w v v2 := by
 rcases h2 with e | e
 ·
  rcases h with f | f
  · exact .inl (e.trans f)
  · exact .inr fun g hg => f g (by rw [← e]; exact hg)
 · exact .inr fun g hg => Nat.le_trans hs (e g hg)
theorem Ch.of_grown {w w' : World} {b : Nat} {v : Value} {row : Option Nat} (h : w.grownBy w' row) (hr : row = some b ∨ row = v.ownBlock ∨ row = none) : Ch w w' b v :=
 ⟨h.os, h.tape, h.output, h.size, fun g hg hb hv => h.block g hg (fun e => by
  rcases hr with f | f | f
  · rw [f] at e; injection e with e; exact hb e
  · exact hv (by rw [← f]; exact e.symm)
  · rw [f] at e; cases e)⟩
end Go.Proofs.YtkcjhkfelaplkaaGreatDoor
end
section
namespace Go.Proofs.YtkcjhkfelaplkaaGreatDoor
open Go.RowKit Go.Sort
end Go.Proofs.YtkcjhkfelaplkaaGreatDoor
end
section
namespace Go.Proofs.YtkcjhkfelaplkaaGreatDoor
open Go.RowKit Go.Sort
end Go.Proofs.YtkcjhkfelaplkaaGreatDoor
end
section
namespace Go.Proofs.YtkcjhkfelaplkaaGreatDoor
open Go.RowKit Go.Sort
end Go.Proofs.YtkcjhkfelaplkaaGreatDoor
end
