/-
  A power of ten as a whole number, and that a decimal number is the quotient of its digits and that power.
  Conditions: as each lemma says.
-/
import Derived.Test.YtceingfjdkpolaaSpeak1
namespace Go.Proofs.Ytceingfjdkpolaa
open Go.RowKit

theorem pow10_le (k : Nat) (h : k ≤ 15) : (10 : Int) ^ k ≤ 1000000000000000 ∧ (1 : Int) ≤ 10 ^ k := by
  have : ∀ k, k ≤ 15 → (10 : Int) ^ k ≤ 1000000000000000 ∧ (1 : Int) ≤ 10 ^ k := by decide
  exact this k h

theorem P10_word : ∀ k, k ≤ 15 → ub (ROfInt ((10 : Int) ^ k)) = P10 k := by decide +kernel

theorem ofint_lt (n : Int) : floatOfInt .f64 n < 18446744073709551616 := Ieee.double.nearest_lt _ _ _

theorem ofint_num (n : Int) : rnan (floatOfInt .f64 n) = false := nearest_num _ _ _

theorem scale_eq (m : Int) (s : Nat) (h15 : s ≤ 15) :
    ROf (Ieee.double.div (ub (ROfInt m)) (ub (ROfInt ((10 : Int) ^ s)))) = ROf (Ieee.double.div (floatOfInt .f64 m) (P10 s)) := by
  rw [P10_word s h15]
  have : ub (ROfInt m) = floatOfInt .f64 m := by
    unfold ROfInt RBits
    rw [ofint_num m, if_neg (by decide), ub_wrap _ (ofint_lt m)]
  rw [this]

end Go.Proofs.Ytceingfjdkpolaa
