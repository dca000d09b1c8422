/-
  DERIVED. GIVEN WITH THE SEED: THE CARDS: each row of YtkdljagcdaphdabDoorRows.lean that lists a variable, with what it lists TIED to the program's text (the seventh form; the later family's looks); each row that meets fmt, with fmt's text TOLD by the authors' own Lean function (tested against real Go, not proved from fmt's source: count such statements apart). THE CARD IS WHAT COUNTS. Prove the row's statement (the work); the ties are given (YtkdljagcdaphdabDoorTie.lean); close each card by the builder's one call (the guide's Derived/Test/ToyasCard.lean, 'card_holds'). Laid BY PROGRAM, IN A SANDBOX (cutbox-door.mjs). By AI agents, Wed Nov 11 2026. No macro, syntax, notation, axiom, sorry.
-/
import Derived.Test.YtkdljagcdaphdabDoorRows
import GoSem.ClaimSeven
namespace Go.Proofs.YtkdljagcdaphdabDoor
namespace Rows

/-- THE TIED CARD OF 'knapsacklaw10.CapsTells'. -/
def capsTellsCard : Claim7 := { stood := { row := capsTellsRow, standIns := [], harness := (true, "6606b62a52966c3676676914b73dda051d97078d295cfcc948ffb8a3b15a1812"), looks := false }, kinds := [], alts := [], laidByText := true, laidKinds := [.data, .pinned], laidTests := true, laidLooks := .later }
def CapsTellsCardSaid : Prop := Claim7.holds Tryd.pinned (.plain (OpenSpec.ofChange capsTellsSpec)) capsTellsCard

/-- THE TIED CARD OF 'knapsacklaw10.CapsChooses'. -/
def capsChoosesCard : Claim7 := { stood := { row := capsChoosesRow, standIns := [], harness := (true, "6606b62a52966c3676676914b73dda051d97078d295cfcc948ffb8a3b15a1812"), looks := false }, kinds := [], alts := [], laidByText := true, laidKinds := [.data, .pinned], laidTests := true, laidLooks := .later }
def CapsChoosesCardSaid : Prop := Claim7.holds Tryd.pinned (.plain (OpenSpec.ofChange capsChoosesSpec)) capsChoosesCard

/-- THE SECOND FORM's CARD OF 'knapsacklaw10.CapsTells'. -/
def capsTellsUptoCard : Claim7 := { stood := { row := capsTellsUptoRow, standIns := [], harness := (true, "6606b62a52966c3676676914b73dda051d97078d295cfcc948ffb8a3b15a1812"), looks := false }, kinds := [], alts := [], laidByText := true, laidKinds := [.data, .pinned], laidTests := true, laidLooks := .later }
def CapsTellsUptoCardSaid : Prop := Claim7.holds Tryd.pinned (.plain (OpenSpec.upto capsTellsSpec)) capsTellsUptoCard

/-- THE SECOND FORM's CARD OF 'knapsacklaw10.CapsChooses'. -/
def capsChoosesUptoCard : Claim7 := { stood := { row := capsChoosesUptoRow, standIns := [], harness := (true, "6606b62a52966c3676676914b73dda051d97078d295cfcc948ffb8a3b15a1812"), looks := false }, kinds := [], alts := [], laidByText := true, laidKinds := [.data, .pinned], laidTests := true, laidLooks := .later }
def CapsChoosesUptoCardSaid : Prop := Claim7.holds Tryd.pinned (.plain (OpenSpec.upto capsChoosesSpec)) capsChoosesUptoCard
end Rows
end Go.Proofs.YtkdljagcdaphdabDoor
