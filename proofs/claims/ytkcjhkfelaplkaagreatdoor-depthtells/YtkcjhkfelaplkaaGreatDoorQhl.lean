/-
  WALKS OF LAYER 4: the document's own Links (knapsackref04.Links). WALKS OF LAYER 4: the document's own Links (knapsackre
-/
import Derived.Test.YtkcjhkfelaplkaaGreatDoorQd
import Derived.Test.YtkcjhkfelaplkaaGreatDoorQa
set_option linter.unusedVariables false
set_option linter.unusedSimpArgs false
set_option maxHeartbeats 8000000
set_option maxRecDepth 100000
section
namespace Go.Proofs.YtkcjhkfelaplkaaGreatDoor
open Go.RowKit
set_option linter.unusedVariables false
set_option linter.unusedSimpArgs false

end Go.Proofs.YtkcjhkfelaplkaaGreatDoor
end

section
namespace Go.Proofs.YtkcjhkfelaplkaaGreatDoor
open Go.RowKit
set_option linter.unusedVariables false
set_option linter.unusedSimpArgs false

end Go.Proofs.YtkcjhkfelaplkaaGreatDoor
end
