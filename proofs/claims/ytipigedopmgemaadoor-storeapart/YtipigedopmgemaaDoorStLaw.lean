/-
  WALKS OF LAYER 11: StoreApart where it asks for the examples alone.
-/
import Derived.Test.YtipigedopmgemaaDoorStAp
namespace Go.Proofs.YtipigedopmgemaaDoor
open Go.RowKit
set_option linter.unusedVariables false
set_option linter.unusedSimpArgs false

end Go.Proofs.YtipigedopmgemaaDoor
