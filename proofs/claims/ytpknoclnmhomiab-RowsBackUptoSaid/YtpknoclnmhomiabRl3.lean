/-
  The statements of layer 6: what the walk of 'back' wants together.
  Conditions: none.
-/
import Derived.Test.YtpknoclnmhomiabRl1
import Derived.Test.YtpknoclnmhomiabRow9
namespace Go.Proofs.Ytpknoclnmhomiab
theorem rl3_here : True := trivial
end Go.Proofs.Ytpknoclnmhomiab
