/-
  Package rows over the translation: its calls' contracts together.
  Conditions: none.
-/
import Derived.Test.YtpknoclnmhomiabRs3
import Derived.Test.YtpknoclnmhomiabRs6
namespace Go.Proofs.Ytpknoclnmhomiab
theorem rst_here : True := trivial
end Go.Proofs.Ytpknoclnmhomiab
