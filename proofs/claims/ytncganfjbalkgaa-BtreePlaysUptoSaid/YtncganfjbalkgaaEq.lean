/-
  What '==' says of two values of the document over the translation: field by field.
  Conditions: none.
-/
import Derived.Test.YtncganfjbalkgaaVal
import Derived.Laws.StructEq
namespace Go.Proofs.Ytncganfjbalkgaa
open Go.RowKit

/-- two values are one in all fields -/
def veq (k n : Int) (s : ByteArray) (k' n' : Int) (s' : ByteArray) : Bool := k == k' && n == n' && s.toList == s'.toList

end Go.Proofs.Ytncganfjbalkgaa
