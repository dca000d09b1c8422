/-
  LAYER 10: slices of words as arguments; the witness's start.
-/
import Derived.Test.YtkdljagcdaphdabDoorBase
import Derived.ProofKit
import Derived.OpenShut
import Derived.LaidMore
import Derived.Lay
import Derived.Deep.Lists
namespace Go.Proofs.YtkdljagcdaphdabDoor
open Go.ChangeShapes Go.WideShapes Go.ChangeAt Go.RowKit Go.Deep
set_option linter.unusedVariables false

theorem kS : Tryd.prog.cellsOf 9 = 1 := by kernel_rfl
section
variable {H : Type} {enc : TypeId × Value → H} {w : World} {base : Nat} {spare : Nat → Bool} {held : Bool} {fuel : Nat} {cs : List Value} {x : DataW H × List MemPlace}
theorem open_strs (h : DataW.trod enc Tryd.prog w base (fun _ => true) held fuel 22 cs = some x) :
    ∃ (L : List ByteArray) (ao : Option Addr) (ca : Nat), cs = [.slice ao L.length ca] ∧ StrsAt w (.slice ao L.length ca) L ∧ L.length ≤ maxLen := by
  rcases open_strings Tryd.underlying22 Tryd.underlying9 kS h with ⟨rfl, _⟩ | ⟨a, len, cap, ss, rfl, hb, hl, hm, hss, _, hc, hz⟩
  · exact ⟨[], none, 0, rfl, StrsAt.nil _, Nat.zero_le _⟩
  · have hlen : ss.length = cap := by simpa using hss
    have htl : (ss.take len).length = len := by rw [List.length_take]; omega
    refine ⟨ss.take len, some a, cap, by rw [htl], ⟨.inr ⟨a, cap, rfl, by omega, fun i s hi => ?_⟩⟩, by omega⟩
    rw [List.getElem?_take] at hi
    split at hi
    · have hlt : i < ss.length := (List.getElem?_eq_some_iff.1 hi).1
      have := hc i hlt
      rw [List.getD_eq_getElem?_getD, hi] at this
      exact this
    · cases hi
end
theorem ownK : ownKnob Tryd.prog.godebug = none := by kernel_rfl
theorem laidOut : laidOutB Tryd.prog = true := by kernel_rfl

end Go.Proofs.YtkdljagcdaphdabDoor
