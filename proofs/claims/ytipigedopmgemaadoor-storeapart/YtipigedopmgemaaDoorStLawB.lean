/-
  WALKS OF LAYER 11: StoreApart, the long arm.
-/
import Derived.Test.YtipigedopmgemaaDoorStLaw
namespace Go.Proofs.YtipigedopmgemaaDoor
open Go.RowKit
set_option linter.unusedVariables false
set_option linter.unusedSimpArgs false

end Go.Proofs.YtipigedopmgemaaDoor
