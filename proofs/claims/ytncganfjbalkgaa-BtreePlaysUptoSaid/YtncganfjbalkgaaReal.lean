/-
  Contracts of the package real (layer 1) over its translation: one form and order.
  Conditions: none.
-/
import Derived.Test.YtncganfjbalkgaaRows
import Derived.WalkKit
import Derived.WalkSpells
import Derived.WalkLawsBesides
import Derived.Laws.Externs
import Derived.Lib.Hide
import Derived.Test.YtncganfjbalkgaaPlain1
namespace Go.Proofs.Ytncganfjbalkgaa
open Go.RowKit

end Go.Proofs.Ytncganfjbalkgaa
