/-
  PROVED: for every list of seeds and every string the law StoreApart (P11.1 to P11.3) answers true, and its arguments read afterwards as before: of up to 20 seeds (each with up to 10 numbers and a text of up to 300 bytes) the objects that they make give the same store in whatever of two orders they are put; the document's store tells the same; a copy goes on apart; a nil store has nothing; the document's examples hold.
  Conditions: the row's own: each argument within the form's reach; the package variable roundWords starts as the program's text lays it (the card ties it).
-/
import Derived.Test.YtipigedopmgemaaDoorStLawB
import Derived.Test.YtipigedopmgemaaDoorStOpen
import Derived.Test.YtipigedopmgemaaDoorS2c
import Derived.Test.YtipigedopmgemaaDoorCards
import Derived.Test.YtipigedopmgemaaDoorTie
import Derived.SevenTiedAt
import Derived.ChangeSlices
import Derived.Carry
namespace Go.Proofs.YtipigedopmgemaaDoor
open Go.ChangeShapes Go.WideShapes Go.ChangeAt Go.RowKit Go.Deep
open Go.ChangeMaps (open_string shut_string)
set_option linter.unusedVariables false

end Go.Proofs.YtipigedopmgemaaDoor
