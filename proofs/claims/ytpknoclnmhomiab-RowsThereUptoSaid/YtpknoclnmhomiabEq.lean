/-
  What '==' says of two values of the document over the translation: field by field.
  Conditions: none.
-/
import Derived.Test.YtpknoclnmhomiabVal
import Derived.Laws.StructEq
namespace Go.Proofs.Ytpknoclnmhomiab
open Go.RowKit

/-- two values are one in all fields -/
def veq (k n : Int) (s : ByteArray) (k' n' : Int) (s' : ByteArray) : Bool := k == k' && n == n' && s.toList == s'.toList

@[go_sem] theorem eqV (k n : Int) (s : ByteArray) (k' n' : Int) (s' : ByteArray) (w : World) :
    (Op.equalIn 10000 43 (.agg #[.int .i64 k, .int .i64 n, .string s]) (.agg #[.int .i64 k', .int .i64 n', .string s'])).run Try.prog w = .ok (veq k n s k' n' s') w := by
  have u2 := Try.underlying2
  have u3 := Try.underlying3
  have u9 := Try.underlying9
  have hS : Try.prog.underlying 43 = some (.struct (Try.prog.fieldsOf 43)) := by kernel_rfl
  have hp : Try.prog.stoodInHeld 43 = false := by kernel_rfl
  rw [show (10000 : Nat) = 9999 + 1 from rfl, run_equalIn_agg w 9999 43 _ _ hS hp]
  simp only [Program.fieldsOf, Try.underlying43]
  go_simp
  unfold veq
  by_cases h1 : k = k' <;> by_cases h2 : n = n' <;> by_cases h3 : s.toList = s'.toList <;> simp [h1, h2, h3]

end Go.Proofs.Ytpknoclnmhomiab
