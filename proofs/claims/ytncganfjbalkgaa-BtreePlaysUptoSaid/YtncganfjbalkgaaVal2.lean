/-
  Contracts of package value (layer 2) over the translation: checks, order, comparisons.
  Conditions: none.
-/
import Derived.Test.YtncganfjbalkgaaVal
import Derived.Test.YtncganfjbalkgaaBcell
import Derived.Deep.QuietTactic
import Derived.BigQuiet
namespace Go.Proofs.Ytncganfjbalkgaa
open Go.RowKit Go.Joins Go.ChangeShapes Go.WideShapes

def RightNum (k n : Int) : Bool := if k = 1 then n == 0 || n == 1 else if k = 2 then true else if k = 3 then n == RCanon n else n == 0

/-- the error's number of a value -/
def VCheck (k n : Int) (s : ByteArray) : Int :=
  if k < 0 ∨ 4 < k then 50 else if RightNum k n = false then 2 else if k ≠ 4 ∧ s.toList ≠ [] then 2 else if 200 < s.size then 1 else 0

end Go.Proofs.Ytncganfjbalkgaa
