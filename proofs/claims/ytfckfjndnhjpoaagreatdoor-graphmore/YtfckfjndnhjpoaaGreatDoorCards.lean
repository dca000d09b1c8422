/-
  DERIVED. GIVEN WITH THE SEED: THE CARDS: each row of YtfckfjndnhjpoaaGreatDoorRows.lean that lists a variable, with what it lists TIED to the program's text (the seventh form; the later family's looks); each row that meets fmt, with fmt's text TOLD by the authors' own Lean function (tested against real Go, not proved from fmt's source: count such statements apart). THE CARD IS WHAT COUNTS. Prove the row's statement (the work); the ties are given (YtfckfjndnhjpoaaGreatDoorTie.lean); close each card by the builder's one call (the guide's Derived/Test/ToyasCard.lean, 'card_holds'). Laid BY PROGRAM, IN A SANDBOX (cutbox-door.mjs). By AI agents, Wed Nov 11 2026. No macro, syntax, notation, axiom, sorry.
-/
import Derived.Test.YtfckfjndnhjpoaaGreatDoorRows
import GoSem.ClaimSeven
namespace Go.Proofs.YtfckfjndnhjpoaaGreatDoor
namespace Rows

/-- THE TIED CARD OF 'knapsacklaw12.GraphReaches'. -/
def graphReachesCard : Claim7 := { stood := { row := graphReachesRow, standIns := [], harness := (true, "93d9be891dd006353843cd0b16865ece69ccaf19c4697496eafaefbacccc79d7"), looks := true }, kinds := [], alts := [], laidByText := true, laidKinds := [.data], laidTests := true, laidLooks := .later }
def GraphReachesCardSaid : Prop := Claim7.holds Tryz.pinned (.plain (OpenSpec.ofChange graphReachesSpec)) graphReachesCard

/-- THE TIED CARD OF 'knapsacklaw12.GraphWalks'. -/
def graphWalksCard : Claim7 := { stood := { row := graphWalksRow, standIns := [], harness := (true, "93d9be891dd006353843cd0b16865ece69ccaf19c4697496eafaefbacccc79d7"), looks := true }, kinds := [], alts := [], laidByText := true, laidKinds := [.data], laidTests := true, laidLooks := .later }
def GraphWalksCardSaid : Prop := Claim7.holds Tryz.pinned (.plain (OpenSpec.ofChange graphWalksSpec)) graphWalksCard

/-- THE TIED CARD OF 'knapsacklaw12.GraphMore'. -/
def graphMoreCard : Claim7 := { stood := { row := graphMoreRow, standIns := [], harness := (true, "93d9be891dd006353843cd0b16865ece69ccaf19c4697496eafaefbacccc79d7"), looks := true }, kinds := [], alts := [], laidByText := true, laidKinds := [.data], laidTests := true, laidLooks := .later }
def GraphMoreCardSaid : Prop := Claim7.holds Tryz.pinned (.plain (OpenSpec.ofChange graphMoreSpec)) graphMoreCard

/-- THE TIED CARD OF 'knapsacklaw13.DepthTells'. -/
def depthTellsCard : Claim7 := { stood := { row := depthTellsRow, standIns := [], harness := (true, "93d9be891dd006353843cd0b16865ece69ccaf19c4697496eafaefbacccc79d7"), looks := true }, kinds := [], alts := [], laidByText := true, laidKinds := [.data], laidTests := true, laidLooks := .later }
def DepthTellsCardSaid : Prop := Claim7.holds Tryz.pinned (.plain (OpenSpec.ofChange depthTellsSpec)) depthTellsCard

/-- THE TIED CARD OF 'knapsacklaw13.DepthCuts'. -/
def depthCutsCard : Claim7 := { stood := { row := depthCutsRow, standIns := [], harness := (true, "93d9be891dd006353843cd0b16865ece69ccaf19c4697496eafaefbacccc79d7"), looks := true }, kinds := [], alts := [], laidByText := true, laidKinds := [.data], laidTests := true, laidLooks := .later }
def DepthCutsCardSaid : Prop := Claim7.holds Tryz.pinned (.plain (OpenSpec.ofChange depthCutsSpec)) depthCutsCard

/-- THE SECOND FORM's CARD OF 'knapsacklaw12.GraphReaches'. -/
def graphReachesUptoCard : Claim7 := { stood := { row := graphReachesUptoRow, standIns := [], harness := (true, "93d9be891dd006353843cd0b16865ece69ccaf19c4697496eafaefbacccc79d7"), looks := true }, kinds := [], alts := [], laidByText := true, laidKinds := [.data], laidTests := true, laidLooks := .later }
def GraphReachesUptoCardSaid : Prop := Claim7.holds Tryz.pinned (.plain (OpenSpec.upto graphReachesSpec)) graphReachesUptoCard

/-- THE SECOND FORM's CARD OF 'knapsacklaw12.GraphWalks'. -/
def graphWalksUptoCard : Claim7 := { stood := { row := graphWalksUptoRow, standIns := [], harness := (true, "93d9be891dd006353843cd0b16865ece69ccaf19c4697496eafaefbacccc79d7"), looks := true }, kinds := [], alts := [], laidByText := true, laidKinds := [.data], laidTests := true, laidLooks := .later }
def GraphWalksUptoCardSaid : Prop := Claim7.holds Tryz.pinned (.plain (OpenSpec.upto graphWalksSpec)) graphWalksUptoCard

/-- THE SECOND FORM's CARD OF 'knapsacklaw12.GraphMore'. -/
def graphMoreUptoCard : Claim7 := { stood := { row := graphMoreUptoRow, standIns := [], harness := (true, "93d9be891dd006353843cd0b16865ece69ccaf19c4697496eafaefbacccc79d7"), looks := true }, kinds := [], alts := [], laidByText := true, laidKinds := [.data], laidTests := true, laidLooks := .later }
def GraphMoreUptoCardSaid : Prop := Claim7.holds Tryz.pinned (.plain (OpenSpec.upto graphMoreSpec)) graphMoreUptoCard

/-- THE SECOND FORM's CARD OF 'knapsacklaw13.DepthTells'. -/
def depthTellsUptoCard : Claim7 := { stood := { row := depthTellsUptoRow, standIns := [], harness := (true, "93d9be891dd006353843cd0b16865ece69ccaf19c4697496eafaefbacccc79d7"), looks := true }, kinds := [], alts := [], laidByText := true, laidKinds := [.data], laidTests := true, laidLooks := .later }
def DepthTellsUptoCardSaid : Prop := Claim7.holds Tryz.pinned (.plain (OpenSpec.upto depthTellsSpec)) depthTellsUptoCard

/-- THE SECOND FORM's CARD OF 'knapsacklaw13.DepthCuts'. -/
def depthCutsUptoCard : Claim7 := { stood := { row := depthCutsUptoRow, standIns := [], harness := (true, "93d9be891dd006353843cd0b16865ece69ccaf19c4697496eafaefbacccc79d7"), looks := true }, kinds := [], alts := [], laidByText := true, laidKinds := [.data], laidTests := true, laidLooks := .later }
def DepthCutsUptoCardSaid : Prop := Claim7.holds Tryz.pinned (.plain (OpenSpec.upto depthCutsSpec)) depthCutsUptoCard
end Rows
end Go.Proofs.YtfckfjndnhjpoaaGreatDoor
