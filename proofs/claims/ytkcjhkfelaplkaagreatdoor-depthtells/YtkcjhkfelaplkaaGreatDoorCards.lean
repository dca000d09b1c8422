/-
  DERIVED. GIVEN WITH THE SEED: THE CARDS: each row of YtkcjhkfelaplkaaGreatDoorRows.lean that lists a variable, with what it lists TIED to the program's text (the seventh form; the later family's looks); each row that meets fmt, with fmt's text TOLD by the authors' own Lean function (tested against real Go, not proved from fmt's source: count such statements apart). THE CARD IS WHAT COUNTS. Prove the row's statement (the work); the ties are given (YtkcjhkfelaplkaaGreatDoorTie.lean); close each card by the builder's one call (the guide's Derived/Test/ToyasCard.lean, 'card_holds'). Laid BY PROGRAM, IN A SANDBOX (cutbox-door.mjs). By AI agents, Wed Nov 11 2026. No macro, syntax, notation, axiom, sorry.
-/
import Derived.Test.YtkcjhkfelaplkaaGreatDoorRows
import GoSem.ClaimSeven
namespace Go.Proofs.YtkcjhkfelaplkaaGreatDoor
namespace Rows

/-- THE TIED CARD OF 'knapsacklaw13.DepthTells'. -/
def depthTellsCard : Claim7 := { stood := { row := depthTellsRow, standIns := [], harness := (true, "87a26fb027824a65f778281a2dcd93ab33ce4876fc3c122f5739f57b004ad9bc"), looks := true }, kinds := [], alts := [], laidByText := true, laidKinds := [.data], laidTests := true, laidLooks := .later }
def DepthTellsCardSaid : Prop := Claim7.holds Tryz.pinned (.plain (OpenSpec.ofChange depthTellsSpec)) depthTellsCard

/-- THE TIED CARD OF 'knapsacklaw13.DepthCuts'. -/
def depthCutsCard : Claim7 := { stood := { row := depthCutsRow, standIns := [], harness := (true, "87a26fb027824a65f778281a2dcd93ab33ce4876fc3c122f5739f57b004ad9bc"), looks := true }, kinds := [], alts := [], laidByText := true, laidKinds := [.data], laidTests := true, laidLooks := .later }
def DepthCutsCardSaid : Prop := Claim7.holds Tryz.pinned (.plain (OpenSpec.ofChange depthCutsSpec)) depthCutsCard

/-- THE TIED CARD OF 'knapsacklaw14.CheckTells'. -/
def checkTellsCard : Claim7 := { stood := { row := checkTellsRow, standIns := [], harness := (true, "87a26fb027824a65f778281a2dcd93ab33ce4876fc3c122f5739f57b004ad9bc"), looks := true }, kinds := [], alts := [], laidByText := true, laidKinds := [.data], laidTests := true, laidLooks := .later }
def CheckTellsCardSaid : Prop := Claim7.holds Tryz.pinned (.plain (OpenSpec.ofChange checkTellsSpec)) checkTellsCard

/-- THE TIED CARD OF 'knapsacklaw14.CheckMore'. -/
def checkMoreCard : Claim7 := { stood := { row := checkMoreRow, standIns := [], harness := (true, "87a26fb027824a65f778281a2dcd93ab33ce4876fc3c122f5739f57b004ad9bc"), looks := true }, kinds := [], alts := [], laidByText := true, laidKinds := [.data], laidTests := true, laidLooks := .later }
def CheckMoreCardSaid : Prop := Claim7.holds Tryz.pinned (.plain (OpenSpec.ofChange checkMoreSpec)) checkMoreCard

/-- THE SECOND FORM's CARD OF 'knapsacklaw13.DepthTells'. -/
def depthTellsUptoCard : Claim7 := { stood := { row := depthTellsUptoRow, standIns := [], harness := (true, "87a26fb027824a65f778281a2dcd93ab33ce4876fc3c122f5739f57b004ad9bc"), looks := true }, kinds := [], alts := [], laidByText := true, laidKinds := [.data], laidTests := true, laidLooks := .later }
def DepthTellsUptoCardSaid : Prop := Claim7.holds Tryz.pinned (.plain (OpenSpec.upto depthTellsSpec)) depthTellsUptoCard

/-- THE SECOND FORM's CARD OF 'knapsacklaw13.DepthCuts'. -/
def depthCutsUptoCard : Claim7 := { stood := { row := depthCutsUptoRow, standIns := [], harness := (true, "87a26fb027824a65f778281a2dcd93ab33ce4876fc3c122f5739f57b004ad9bc"), looks := true }, kinds := [], alts := [], laidByText := true, laidKinds := [.data], laidTests := true, laidLooks := .later }
def DepthCutsUptoCardSaid : Prop := Claim7.holds Tryz.pinned (.plain (OpenSpec.upto depthCutsSpec)) depthCutsUptoCard

/-- THE SECOND FORM's CARD OF 'knapsacklaw14.CheckTells'. -/
def checkTellsUptoCard : Claim7 := { stood := { row := checkTellsUptoRow, standIns := [], harness := (true, "87a26fb027824a65f778281a2dcd93ab33ce4876fc3c122f5739f57b004ad9bc"), looks := true }, kinds := [], alts := [], laidByText := true, laidKinds := [.data], laidTests := true, laidLooks := .later }
def CheckTellsUptoCardSaid : Prop := Claim7.holds Tryz.pinned (.plain (OpenSpec.upto checkTellsSpec)) checkTellsUptoCard

/-- THE SECOND FORM's CARD OF 'knapsacklaw14.CheckMore'. -/
def checkMoreUptoCard : Claim7 := { stood := { row := checkMoreUptoRow, standIns := [], harness := (true, "87a26fb027824a65f778281a2dcd93ab33ce4876fc3c122f5739f57b004ad9bc"), looks := true }, kinds := [], alts := [], laidByText := true, laidKinds := [.data], laidTests := true, laidLooks := .later }
def CheckMoreUptoCardSaid : Prop := Claim7.holds Tryz.pinned (.plain (OpenSpec.upto checkMoreSpec)) checkMoreUptoCard
end Rows
end Go.Proofs.YtkcjhkfelaplkaaGreatDoor
