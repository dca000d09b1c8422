/-
  WALKS OF LAYER 4: the document's own Links (knapsackref04.Links). WALKS OF LAYER 4: the document's own Links (knapsackre
-/
import Derived.Test.YtfckfjndnhjpoaaGreatDoorQd
import Derived.Test.YtfckfjndnhjpoaaGreatDoorQa
set_option linter.unusedVariables false
set_option linter.unusedSimpArgs false
set_option maxHeartbeats 8000000
set_option maxRecDepth 100000
section
namespace Go.Proofs.YtfckfjndnhjpoaaGreatDoor
open Go.RowKit
end Go.Proofs.YtfckfjndnhjpoaaGreatDoor
end
section
namespace Go.Proofs.YtfckfjndnhjpoaaGreatDoor
open Go.RowKit
end Go.Proofs.YtfckfjndnhjpoaaGreatDoor
end
