/-
  The examples of the document for layer 1 hold, and the walk of RealNames.
  Conditions: none.
-/
import Derived.Test.YtceingfjdkpolaaRef2
namespace Go.Proofs.Ytceingfjdkpolaa
open Go.RowKit

theorem k1 : ROfDecimal 125 1 = (4623226492472524800, 0) := by decide +kernel
theorem k2 : floatToIntVal .f64 (ub 4623226492472524800) .i64 = some 12 := by decide +kernel
theorem k3 : tbad (ub 4623226492472524800) = false := by decide +kernel
theorem k4 : ROrder 0 (-9223372036854775808) = 0 := by decide +kernel
theorem k5 : ROrder 9221120237041090560 9218868437227405312 = 1 := by decide +kernel
theorem k6 : ROf (Ieee.double.div (ub 4607182418800017408) (ub 0)) = 9218868437227405312 := by decide +kernel
theorem k7 : ROf (Ieee.double.div (ub 0) (ub 0)) = 9221120237041090560 := by decide +kernel
theorem k8 : ROf (Ieee.double.div (ub 4607182418800017408) (ub (-9223372036854775808))) = -4503599627370496 := by decide +kernel
theorem k9 : ROf (Ieee.double.add (ub 4607182418800017408) (ub 0)) = 4607182418800017408 := by decide +kernel
theorem k10 : ROfInt 1 = 4607182418800017408 := by decide +kernel
theorem k11 : RNeg 0 = -9223372036854775808 := by decide +kernel
theorem k12 : ROf (Ieee.double.mul (ub 4623226492472524800) (ub 4607182418800017408)) = 4623226492472524800 := by decide +kernel
theorem k13 : ROf (Ieee.double.sub (ub 4623226492472524800) (ub 0)) = 4623226492472524800 := by decide +kernel
theorem k14 : RCanon 4607182418800017408 = 4607182418800017408 := by decide +kernel

end Go.Proofs.Ytceingfjdkpolaa
