/-
  Keys: the bytes of values as the document has them; contracts over the translation: a number's eight bytes, a real's number in the order.
  Conditions: the numbers are of 64 bits.
-/
import Derived.Test.YtpknoclnmhomiabByt1
import Derived.Test.YtpknoclnmhomiabVal10
import Derived.Test.YtpknoclnmhomiabPlain1
namespace Go.Proofs.Ytpknoclnmhomiab
open Go.RowKit Go.Joins Go.ChangeShapes Go.WideShapes
set_option linter.unusedVariables false

/-- a number's eight bytes, the greatest first -/
def be8 (u : Nat) : List Nat := [u / 72057594037927936 % 256, u / 281474976710656 % 256, u / 1099511627776 % 256, u / 4294967296 % 256, u / 16777216 % 256, u / 65536 % 256, u / 256 % 256, u % 256]
/-- a real's number in the order -/
def risV (n : Int) : Int := if n = -9223372036854775808 then 9223372036854775808 else if n < 0 then -1 - n else n + 9223372036854775808

end Go.Proofs.Ytpknoclnmhomiab
