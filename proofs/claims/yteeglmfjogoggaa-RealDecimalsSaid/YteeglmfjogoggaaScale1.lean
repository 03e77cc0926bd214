/-
  A power of ten as a whole number, and that a decimal number is the quotient of its digits and that power.
  Conditions: as each lemma says.
-/
import Derived.Test.YteeglmfjogoggaaSpeak1
namespace Go.Proofs.Yteeglmfjogoggaa
open Go.RowKit

theorem pow10_le (k : Nat) (h : k ≤ 15) : (10 : Int) ^ k ≤ 1000000000000000 ∧ (1 : Int) ≤ 10 ^ k := by
  have : ∀ k, k ≤ 15 → (10 : Int) ^ k ≤ 1000000000000000 ∧ (1 : Int) ≤ 10 ^ k := by decide
  exact this k h

theorem refpower_any (n : Nat) (hn : n ≤ 15) (w : World) :
    Calls Try.prog 32 #[.int .i64 n] w fun e w' => e = .returned (.int .i64 ((10 : Int) ^ n)) ∧ w = w' := by
  go_enter Try.func32, Try.ntmps32
  go_wp2
  go_loop [3, 4] (fun p i => ∃ k : Nat, k ≤ n ∧ i = .int .i64 k ∧ p = .int .i64 ((10 : Int) ^ k)) (fun _ i => n - (intOf i).toNat)
  case atStart => exact ⟨0, Nat.zero_le _, rfl, by rfl⟩
  case round =>
    obtain ⟨k, hk, rfl, rfl⟩ := hrel
    by_cases hlt : k < n
    · obtain ⟨hb1, hb2⟩ := pow10_le k (by omega)
      have hp : (10 : Int) ^ k * 10 = 10 ^ (k + 1) := (Int.pow_succ _ _).symm
      generalize (10 : Int) ^ k = p at *
      have HP := Lib.hid hp
      clear hp
      go_wp2
      go_round
      case rel => exact ⟨k + 1, by omega, by go_num, by rw [HP.out]⟩
      case measure => simp [intOf]; omega
    · go_wp2
      go_ret
      obtain rfl : k = n := by omega
      exact ⟨rfl, rfl⟩

theorem P10_word : ∀ k, k ≤ 15 → ub (ROfInt ((10 : Int) ^ k)) = P10 k := by decide +kernel

theorem ofint_lt (n : Int) : floatOfInt .f64 n < 18446744073709551616 := Ieee.double.nearest_lt _ _ _

theorem ofint_num (n : Int) : rnan (floatOfInt .f64 n) = false := nearest_num _ _ _

theorem scale_eq (m : Int) (s : Nat) (h15 : s ≤ 15) :
    ROf (Ieee.double.div (ub (ROfInt m)) (ub (ROfInt ((10 : Int) ^ s)))) = ROf (Ieee.double.div (floatOfInt .f64 m) (P10 s)) := by
  rw [P10_word s h15]
  have : ub (ROfInt m) = floatOfInt .f64 m := by
    unfold ROfInt RBits
    rw [ofint_num m, if_neg (by decide), ub_wrap _ (ofint_lt m)]
  rw [this]

end Go.Proofs.Yteeglmfjogoggaa
