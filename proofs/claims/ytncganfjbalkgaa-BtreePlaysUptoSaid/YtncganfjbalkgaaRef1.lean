/-
  Contracts of the document's answers for layer 1 (haspref01) over their translation: parts, places, order.
  Conditions: none.
-/
import Derived.Test.YtncganfjbalkgaaReal
namespace Go.Proofs.Ytncganfjbalkgaa
open Go.RowKit

end Go.Proofs.Ytncganfjbalkgaa
