/-
  All that CoverChecks wants.
  Conditions: none.
-/
import Derived.Test.YtgndbhgpdcelpaaDoorCr8
import Derived.Test.YtgndbhgpdcelpaaDoorCv19
namespace Go.Proofs.YtgndbhgpdcelpaaDoor
set_option maxRecDepth 100000
end Go.Proofs.YtgndbhgpdcelpaaDoor
