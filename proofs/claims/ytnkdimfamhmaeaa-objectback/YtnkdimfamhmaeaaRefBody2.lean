/-
  WALKS OF LAYER 4: the document's own body (knapsackref04.body), of blobs, commits and tags.
-/
import Derived.Test.YtnkdimfamhmaeaaRefBody
namespace Go.Proofs.Ytnkdimfamhmaeaa
open Go.RowKit
set_option linter.unusedVariables false
set_option linter.unusedSimpArgs false

end Go.Proofs.Ytnkdimfamhmaeaa
