/-
  The statements of layer 6: what the walks of 'there' and 'back' want together.
  Conditions: none.
-/
import Derived.Test.YtpknoclnmhomiabRl1
import Derived.Test.YtpknoclnmhomiabRow7
namespace Go.Proofs.Ytpknoclnmhomiab
theorem rl2_here : True := trivial
end Go.Proofs.Ytpknoclnmhomiab
