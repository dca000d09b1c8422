/-
  WHAT THE ROWS' CONDITION GIVES THE WALKS OF LAYER 2: the package variable roundWords holds K0 to K63; and a start that meets it.
-/
import Derived.Test.YtijlmeodfmanmaaDoorWalksC
import Derived.Test.YtijlmeodfmanmaaDoorRows
import Derived.ProofKit
import Derived.OpenShut
import Derived.SizedLaws
import Derived.LaidMore
import Derived.LaidLaws
import Derived.Lib.LaidTab
import Derived.Stop.Joined
namespace Go.Proofs.YtijlmeodfmanmaaDoor
open Go.ChangeShapes Go.WideShapes Go.ChangeAt Go.RowKit
set_option linter.unusedVariables false

theorem Tryd.own : ownKnob Tryd.prog.godebug = none := by kernel_rfl
theorem gK : Tryd.prog.globalNamed "knapsack/sha256.roundWords" = some 0 := by kernel_rfl
theorem tK : (Tryd.prog.globals[0]?).map (·.type) = some 48 := by kernel_rfl
theorem cK : Tryd.prog.cellsOf 48 = 64 := by kernel_rfl
theorem cW : Tryd.prog.cellsOf 38 = 1 := by kernel_rfl
def Kz : List Int := Sh.K.map fun x => (x.toNat : Int)
def laidK : List (String × DataW Unit) := [("knapsack/sha256.roundWords", Lib.tabData .u32 Kz)]
theorem laid_is : [("knapsack/sha256.roundWords", Rows.laid_knapsack_sha256_roundWords)] = laidK := by kernel_rfl
theorem kz_get (t : Nat) (h : t < 64) : Kz.getD t 0 = ((Sh.K.getD t 0).toNat : Int) := by
  have hl : t < Sh.K.length := by rw [K_len]; exact h
  rw [Kz, List.getD_eq_getElem?_getD, List.getD_eq_getElem?_getD, List.getElem?_map, List.getElem?_eq_getElem hl]
  rfl

theorem kin_of_laid {W : World} (h : laidMetH Tryd.prog [("knapsack/sha256.roundWords", Rows.laid_knapsack_sha256_roundWords)] W) : KIn W := by
  rw [laid_is, MakeChecks.laidMetH_plain _ _ _ (by kernel_rfl)] at h
  have ht := Lib.tabIs_of_head gK tK Tryd.underlying48 Tryd.underlying38 cW cK h
  have hc : ∀ t, t < 64 → W.cell? ⟨0, t, none⟩ = some (.int .u32 ((Sh.K.getD t 0).toNat : Int)) := fun t hlt => by
    rw [← kz_get t hlt]
    exact ht.cell gK t (by rw [Kz, List.length_map, K_len]; exact hlt)
  refine ⟨?_, hc⟩
  rcases Nat.eq_zero_or_pos W.heap.size with h0 | h0
  · have := hc 0 (by decide)
    simp [World.cell?, Array.getElem?_eq_none (show W.heap.size ≤ 0 by omega)] at this
  · exact h0

theorem door_met (os : Os) (args : Array Value) : laidMetH Tryd.prog [("knapsack/sha256.roundWords", Rows.laid_knapsack_sha256_roundWords)] ((World.doorLaid Tryd.prog 400 os).forCall (fun _ _ => 0) ⟨#[], args, []⟩).memory :=
  laidMetH_of_parts3 (fuel := 8) (laidMet_of_run' 8 (by kernel_rfl) (by kernel_rfl)) (by kernel_rfl) (by kernel_rfl)

end Go.Proofs.YtijlmeodfmanmaaDoor
