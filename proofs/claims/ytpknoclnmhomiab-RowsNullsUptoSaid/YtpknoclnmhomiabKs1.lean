/-
  Package keys' own small functions over the translation: a real's place, its bits in order, back; a number's and a text's bytes behind a key.
  Conditions: the numbers are of 64 bits; the text and the key are not too long.
-/
import Derived.Test.YtpknoclnmhomiabKif
import Derived.Test.YtpknoclnmhomiabReal
import Derived.Laws.BitsAllLaws
namespace Go.Proofs.Ytpknoclnmhomiab
open Go.RowKit Go.Joins Go.ChangeShapes Go.WideShapes
set_option linter.unusedVariables false

/-- the number of a real's place -/
def plV (n : Int) : Int := if n = -9223372036854775808 then 0 else PCanon n
def turnV (n : Int) : Int := if n < 0 then -1 - n else n + 9223372036854775808
theorem place_0 {n : Int} (hi : InI n) : POrder n 0 = 0 ↔ n = 0 ∨ n = -9223372036854775808 := by
  have h0 : PPlace 0 = 0 := by decide +kernel
  have hp : PPlace n = 0 ↔ n = 0 ∨ n = -9223372036854775808 := by
    constructor
    · intro h
      unfold PPlace at h
      by_cases c : rnan (ub n) = true
      · rw [if_pos c] at h; exact absurd h (by decide)
      · rw [if_neg c] at h
        have hr : rg (ub n) = 0 := by
          unfold pl at h
          split at h <;> omega
        unfold rg ub at hr
        unfold InI at hi
        rw [IntKind.wrap_u64] at hr
        omega
    · rintro (rfl | rfl)
      · exact h0
      · decide +kernel
  rw [← hp]
  unfold POrder
  rw [h0]
  constructor
  · intro h
    split at h
    · exact absurd h (by decide)
    · split at h
      · exact absurd h (by decide)
      · omega
  · intro h
    rw [h, if_neg (by decide), if_neg (by decide)]
theorem plV_eq {n : Int} (hi : InI n) : plV n = if POrder n 0 = 0 then 0 else PCanon n := by
  unfold plV
  by_cases c : n = -9223372036854775808
  · rw [if_pos c, if_pos ((place_0 hi).2 (.inr c))]
  · rw [if_neg c]
    by_cases d : n = 0
    · subst d
      rw [if_pos ((place_0 hi).2 (.inl rfl))]
      decide +kernel
    · rw [if_neg (fun e => by rcases (place_0 hi).1 e with h | h; exact d h; exact c h)]
theorem plV_in {n : Int} (hi : InI n) : InI (plV n) := by
  unfold plV
  split
  · unfold InI; decide
  · exact pcanon_in hi
theorem turn_plV {n : Int} (hi : InI n) (h : n = PCanon n) : turnV (plV n) = risV n := by
  unfold plV risV
  by_cases c : n = -9223372036854775808
  · rw [if_pos c, if_pos c]; rfl
  · rw [if_neg c, if_neg c, ← h]; rfl
theorem turn_in {n : Int} (h : InI n) : 0 ≤ turnV n ∧ turnV n < 18446744073709551616 := by
  unfold InI at h
  unfold turnV
  split <;> omega
theorem xor_top (a : Nat) (ha : a < 18446744073709551616) : bits .xor .u64 (a : Int) 9223372036854775808 = ((if a < 9223372036854775808 then a + 9223372036854775808 else a - 9223372036854775808 : Nat) : Int) := by
  rw [show (9223372036854775808 : Int) = ((9223372036854775808 : Nat) : Int) from rfl, u64_xor_nat a 9223372036854775808 ha (by decide)]
  have := ng_eq a ha
  unfold ng at this
  rw [← this]
theorem xor_all (a : Nat) (ha : a < 18446744073709551616) : bits .xor .u64 18446744073709551615 (a : Int) = 18446744073709551615 - (a : Int) := by
  unfold bits
  dsimp only
  rw [IntKind.wrap_u64, BitVec.toNat_xor]
  have h1 : (BitVec.ofInt IntKind.u64.bits (a : Int)).toNat = a := by
    rw [BitVec.toNat_ofInt]
    show ((a : Int) % 18446744073709551616).toNat = a
    omega
  have h2 : (BitVec.ofInt IntKind.u64.bits 18446744073709551615).toNat = 2 ^ 64 - 1 := by decide
  rw [h1, h2]
  have h3 : (2 ^ 64 - 1) ^^^ a = 2 ^ 64 - 1 - a := by
    apply Nat.eq_of_testBit_eq
    intro i
    rw [Nat.testBit_xor, Nat.testBit_two_pow_sub_one, Nat.sub_sub, Nat.add_comm 1 a, Nat.testBit_two_pow_sub_succ (by omega)]
    by_cases c : i < 64
    · simp [c]
    · have : a.testBit i = false := Nat.testBit_lt_two_pow (Nat.lt_of_lt_of_le ha (Nat.pow_le_pow_right (n := 2) (by decide) (show 64 ≤ i by omega)))
      simp [c, this]
  rw [h3]
  omega

end Go.Proofs.Ytpknoclnmhomiab
