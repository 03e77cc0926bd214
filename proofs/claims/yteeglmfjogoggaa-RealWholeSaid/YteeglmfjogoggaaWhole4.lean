/-
  A whole number of less than 54 bits is the whole part of its real.
  Conditions: as the lemma says.
-/
import Derived.Test.YteeglmfjogoggaaWhole3
namespace Go.Proofs.Yteeglmfjogoggaa
open Go.RowKit

theorem small_back (n : Int) (h1 : -9007199254740992 < n) (h2 : n < 9007199254740992) : tbad (ub (ROfInt n)) = false ∧ TW (ub (ROfInt n)) = n := by
  rcases Int.lt_trichotomy n 0 with c | c | c
  · obtain ⟨m, rfl⟩ : ∃ m : Nat, n = -(m : Int) := ⟨n.natAbs, by omega⟩
    have hm : m ≠ 0 := by omega
    obtain ⟨l1, l2⟩ := log2_bounds hm
    have lk : m.log2 ≤ 52 := by have := (Nat.log2_lt hm).2 (show m < 2 ^ 53 by omega); omega
    have hr := rofint_neg m m.log2 l1 l2 (by omega)
    have hs := whole_small l2 lk
    have hw : wholeRung m m.log2 = (m.log2 + 1022) * 4503599627370496 + m * 2 ^ (52 - m.log2) := by unfold wholeRung; rw [if_pos lk]
    have ht := TI_whole l1 l2 lk
    generalize wholeRung m m.log2 = r at *
    have hu : ub (ROfInt (-(m : Int))) = 9223372036854775808 + r := by
      rw [hr]; unfold ub; rw [IntKind.wrap_u64]; omega
    have hsg : sg (9223372036854775808 + r) = true := by unfold sg; simp; omega
    have hrg : rg (9223372036854775808 + r) = r := by unfold rg; omega
    rw [hu]
    constructor
    · rw [← Bool.not_eq_true, tbad_iff, hsg, hrg]; unfold INF KW; simp; omega
    · unfold TW; rw [hsg, hrg, ht, if_pos rfl]
  · subst c
    rw [rofint_zero]
    decide +kernel
  · obtain ⟨m, rfl⟩ := Int.eq_ofNat_of_zero_le (show 0 ≤ n by omega)
    have hm : m ≠ 0 := by omega
    obtain ⟨l1, l2⟩ := log2_bounds hm
    have lk : m.log2 ≤ 52 := by have := (Nat.log2_lt hm).2 (show m < 2 ^ 53 by omega); omega
    have hr := rofint_pos m m.log2 l1 l2 (by omega)
    have hs := whole_small l2 lk
    have hw : wholeRung m m.log2 = (m.log2 + 1022) * 4503599627370496 + m * 2 ^ (52 - m.log2) := by unfold wholeRung; rw [if_pos lk]
    have ht := TI_whole l1 l2 lk
    generalize wholeRung m m.log2 = r at *
    have hu : ub (ROfInt (m : Int)) = r := by
      rw [hr]; unfold ub; rw [IntKind.wrap_u64]; omega
    have hsg : sg r = false := by unfold sg; simp; omega
    have hrg : rg r = r := by unfold rg; omega
    rw [hu]
    constructor
    · rw [← Bool.not_eq_true, tbad_iff, hsg, hrg]; unfold INF KW; simp; omega
    · unfold TW; rw [hsg, hrg, ht, if_neg (by decide)]

end Go.Proofs.Yteeglmfjogoggaa
