/-
  Package keys over the translation: its calls' contracts together.
  Conditions: none.
-/
import Derived.Test.YtpknoclnmhomiaaKs3
import Derived.Test.YtpknoclnmhomiaaKs4
import Derived.Test.YtpknoclnmhomiaaKs9
namespace Go.Proofs.Ytpknoclnmhomiaa
theorem kst_here : True := trivial
end Go.Proofs.Ytpknoclnmhomiaa
