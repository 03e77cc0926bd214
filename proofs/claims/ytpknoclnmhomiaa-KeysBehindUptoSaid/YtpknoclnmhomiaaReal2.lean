/-
  Contracts of the package real (layer 1) over its translation: what it reckons.
  Conditions: none.
-/
import Derived.Test.YtpknoclnmhomiaaReal
namespace Go.Proofs.Ytpknoclnmhomiaa
open Go.RowKit

end Go.Proofs.Ytpknoclnmhomiaa
