/-
  The examples of the document for layer 1 hold, and the walk of RealNames.
  Conditions: none.
-/
import Derived.Test.YteeglmfjogoggaaRef2
namespace Go.Proofs.Yteeglmfjogoggaa
open Go.RowKit

theorem k1 : ROfDecimal 125 1 = (4623226492472524800, 0) := by decide +kernel
theorem k2 : floatToIntVal .f64 (ub 4623226492472524800) .i64 = some 12 := by decide +kernel
theorem k3 : tbad (ub 4623226492472524800) = false := by decide +kernel
theorem k4 : ROrder 0 (-9223372036854775808) = 0 := by decide +kernel
theorem k5 : ROrder 9221120237041090560 9218868437227405312 = 1 := by decide +kernel
theorem k6 : ROf (Ieee.double.div (ub 4607182418800017408) (ub 0)) = 9218868437227405312 := by decide +kernel
theorem k7 : ROf (Ieee.double.div (ub 0) (ub 0)) = 9221120237041090560 := by decide +kernel
theorem k8 : ROf (Ieee.double.div (ub 4607182418800017408) (ub (-9223372036854775808))) = -4503599627370496 := by decide +kernel
theorem k9 : ROf (Ieee.double.add (ub 4607182418800017408) (ub 0)) = 4607182418800017408 := by decide +kernel
theorem k10 : ROfInt 1 = 4607182418800017408 := by decide +kernel
theorem k11 : RNeg 0 = -9223372036854775808 := by decide +kernel
theorem k12 : ROf (Ieee.double.mul (ub 4623226492472524800) (ub 4607182418800017408)) = 4623226492472524800 := by decide +kernel
theorem k13 : ROf (Ieee.double.sub (ub 4623226492472524800) (ub 0)) = 4623226492472524800 := by decide +kernel
theorem k14 : RCanon 4607182418800017408 = 4607182418800017408 := by decide +kernel

theorem speaks_any (w : World) :
    Calls Try.prog 11 #[] w fun e w' => e = .returned (.bool true) ∧ ∃ n, w' = w.drewN n := by
  go_enter Try.func11, Try.ntmps11
  go_wp2_with fail
  refine (ofdecimal_any _ _ _).mono ?_
  rintro e w' ⟨rfl, n1, rfl⟩
  rw [k1]
  go_wp2_with fail
  refine (toint_good _ 12 k3 k2 _).mono ?_
  rintro e w' ⟨rfl, rfl⟩
  go_wp2_with fail
  refine (order_any _ _ _).mono ?_
  rintro e w' ⟨rfl, rfl⟩
  rw [k4]
  go_wp2_with fail
  refine (order_any _ _ _).mono ?_
  rintro e w' ⟨rfl, rfl⟩
  rw [k5]
  go_wp2_with fail
  refine (div_any _ _ _).mono ?_
  rintro e w' ⟨rfl, m2, rfl⟩
  rw [k6]
  go_wp2_with fail
  refine (div_any _ _ _).mono ?_
  rintro e w' ⟨rfl, m3, rfl⟩
  rw [k7]
  go_wp2_with fail
  refine (div_any _ _ _).mono ?_
  rintro e w' ⟨rfl, m4, rfl⟩
  rw [k8]
  go_wp2_with fail
  refine (add_any _ _ _).mono ?_
  rintro e w' ⟨rfl, m5, rfl⟩
  rw [k9]
  go_wp2_with fail
  refine (ofint_any _ _).mono ?_
  rintro e w' ⟨rfl, rfl⟩
  rw [k10]
  go_wp2_with fail
  refine (neg_any _ _).mono ?_
  rintro e w' ⟨rfl, rfl⟩
  rw [k11]
  go_wp2_with fail
  refine (mul_any _ _ _).mono ?_
  rintro e w' ⟨rfl, m8, rfl⟩
  rw [k12]
  go_wp2_with fail
  refine (sub_any _ _ _).mono ?_
  rintro e w' ⟨rfl, m9, rfl⟩
  rw [k13]
  go_wp2_with fail
  refine (canon_any _ _).mono ?_
  rintro e w' ⟨rfl, rfl⟩
  rw [k14]
  go_wp2_with fail
  go_ret
  exact ⟨rfl, _, rfl⟩

end Go.Proofs.Yteeglmfjogoggaa
