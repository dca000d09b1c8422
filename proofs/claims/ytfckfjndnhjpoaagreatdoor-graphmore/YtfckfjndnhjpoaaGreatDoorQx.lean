/-
  WALKS OF LAYER 12: the document's Sorted.
-/
import Derived.Test.YtfckfjndnhjpoaaGreatDoorQw
import Derived.Laws.AppendOwnNone
import Derived.Test.YtfckfjndnhjpoaaGreatDoorQa
set_option linter.unusedVariables false
set_option linter.unusedSimpArgs false
set_option maxHeartbeats 8000000
set_option maxRecDepth 100000
namespace Go.Proofs.YtfckfjndnhjpoaaGreatDoor
open Go.RowKit
end Go.Proofs.YtfckfjndnhjpoaaGreatDoor
