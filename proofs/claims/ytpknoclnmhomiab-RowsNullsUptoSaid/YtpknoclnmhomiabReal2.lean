/-
  Contracts of the package real (layer 1) over its translation: what it reckons.
  Conditions: none.
-/
import Derived.Test.YtpknoclnmhomiabReal
namespace Go.Proofs.Ytpknoclnmhomiab
open Go.RowKit

end Go.Proofs.Ytpknoclnmhomiab
