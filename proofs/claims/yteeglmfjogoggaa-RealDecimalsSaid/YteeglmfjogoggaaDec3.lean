/-
  Package real and the document's answer say the same of every decimal number.
  Conditions: none.
-/
import Derived.Test.YteeglmfjogoggaaDec2
namespace Go.Proofs.Yteeglmfjogoggaa
open Go.RowKit
set_option linter.unusedVariables false

theorem fofint_pos {n k : Nat} (h1 : 2 ^ k ≤ n) (h2 : n < 2 ^ (k + 1)) (hk : k ≤ 63) : floatOfInt .f64 (n : Int) = wholeRung n k := by
  have := nearest_whole false n k h1 h2 hk
  rw [word_sr] at this
  simp only [Bool.false_eq_true, if_false, Nat.zero_add] at this
  rw [← this]
  show Ieee.double.nearest (decide ((n : Int) < 0)) (n : Int).natAbs 0 = _
  rw [decide_eq_false (by omega)]
  rfl

theorem dec_val {m d al be : Nat} (hm : 0 < m) (hm2 : m ≤ 999999999999999) (hd : 1 ≤ d) (hd2 : d ≤ 1000000000000000) (ha : al ≤ 60) (hb : be ≤ 60) (h1 : d * 2 ^ be ≤ m * 2 ^ al) (h2 : m * 2 ^ al < 2 * (d * 2 ^ be)) :
    (((be + 1022 - al) * 4503599627370496 + roundQ (m * 2 ^ al * 4503599627370496) (d * 2 ^ be) : Nat) : Int) = ROf (Ieee.double.div (floatOfInt .f64 (m : Int)) (floatOfInt .f64 (d : Int))) := by
  have hm0 : m ≠ 0 := by omega
  have hd0 : d ≠ 0 := by omega
  obtain ⟨l1, l2⟩ := log2_bounds hm0
  obtain ⟨k1, k2⟩ := log2_bounds hd0
  have lk : m.log2 ≤ 52 := by have := pow_small l1 (by omega); omega
  have kk : d.log2 ≤ 52 := by have := pow_small k1 (by omega); omega
  rw [fofint_pos l1 l2 (by omega), fofint_pos k1 k2 (by omega)]
  have h3 : m * 2 ^ al < d * 2 ^ (be + 1) := by rw [Nat.pow_succ, ← Nat.mul_assoc, Nat.mul_comm _ 2]; exact h2
  rw [div_whole l1 l2 lk k1 k2 kk h1 h3]
  have hp : 0 < d * 2 ^ be := Nat.mul_pos (by omega) (Nat.two_pow_pos _)
  have hq : m * 2 ^ al * 4503599627370496 / (d * 2 ^ be) < 9007199254740992 := by
    rw [Nat.div_lt_iff_lt_mul hp]
    have := Nat.mul_lt_mul_of_pos_right h2 (show 0 < 4503599627370496 by decide)
    rw [Nat.mul_right_comm 2 (d * 2 ^ be) 4503599627370496, show 2 * 4503599627370496 = 9007199254740992 from rfl] at this
    exact this
  have hr := roundQ_le (n := m * 2 ^ al * 4503599627370496) (d := d * 2 ^ be)
  exact (dec_word (by omega) (by omega) (by omega)).symm

theorem pow10_nat (s : Nat) (h : s ≤ 15) : 1 ≤ 10 ^ s ∧ 10 ^ s ≤ 1000000000000000 := by
  have : ∀ k, k ≤ 15 → 1 ≤ 10 ^ k ∧ 10 ^ k ≤ 1000000000000000 := by decide
  exact this s h

theorem dec_zero : ∀ s, s ≤ 15 → ROf (Ieee.double.div (floatOfInt .f64 0) (P10 s)) = 0 := by decide +kernel

theorem refdec_bad (m s : Int) (h : dbad m s = true) (w : World) :
    Calls Try.prog 31 #[.int .i64 m, .int .i64 s] w fun e w' => e = .returned (.tuple #[.int .i64 0, .int .i64 11]) ∧ w = w' := by
  unfold dbad at h
  simp only [Bool.or_eq_true, decide_eq_true_eq] at h
  have h' : m < 0 ∨ (0 ≤ m ∧ 999999999999999 < m) ∨ (0 ≤ m ∧ m ≤ 999999999999999 ∧ s < 0) ∨ (0 ≤ m ∧ m ≤ 999999999999999 ∧ 0 ≤ s ∧ 15 < s) := by omega
  clear h
  rcases h' with h1 | ⟨h1, h2⟩ | ⟨h1, h2, h3⟩ | ⟨h1, h2, h3, h4⟩
  all_goals
    go_enter Try.func31, Try.ntmps31
    go_wp2_with fail
    go_ret2
    exact ⟨rfl, rfl⟩

theorem refdec_any (m s : Int) (w : World) :
    Calls Try.prog 31 #[.int .i64 m, .int .i64 s] w fun e w' => e = .returned (.tuple #[.int .i64 (ROfDecimal m s).1, .int .i64 (ROfDecimal m s).2]) ∧ w = w' := by
  unfold ROfDecimal
  rcases h : dbad m s with _ | _
  · have h' := h
    unfold dbad at h'
    simp only [Bool.or_eq_false_iff, decide_eq_false_iff_not] at h'
    obtain ⟨k, rfl⟩ := Int.eq_ofNat_of_zero_le (show 0 ≤ s by omega)
    obtain ⟨n, rfl⟩ := Int.eq_ofNat_of_zero_le (show 0 ≤ m by omega)
    have hk : k ≤ 15 := by omega
    rw [if_neg (by decide), Int.toNat_natCast]
    by_cases hn : n = 0
    · subst hn
      have hz := dec_zero k hk
      rw [show ((0 : Nat) : Int) = 0 from rfl, hz]
      have t3 : ¬ (k : Int) < 0 := by omega
      have t4 : ¬ (15 : Int) < (k : Int) := by omega
      clear h h'
      go_enter Try.func31, Try.ntmps31
      go_wp2_with fail
      go_ret2
      exact ⟨rfl, rfl⟩
    · obtain ⟨p1, p2⟩ := pow10_nat k hk
      have hpw : ∀ w, Calls Try.prog 32 #[.int .i64 k] w fun e w' => e = .returned (.int .i64 ((10 ^ k : Nat) : Int)) ∧ w = w' := by
        intro w
        have := refpower_any k hk w
        rw [show ((10 : Int) ^ k) = ((10 ^ k : Nat) : Int) by rw [Int.natCast_pow]; rfl] at this
        exact this
      refine refdec_pos n k (by omega) (by omega) hk (10 ^ k) p1 p2 hpw _ ?_ w
      intro al be ha hb h1 h2
      exact dec_val (by omega) (by omega) p1 p2 ha hb h1 h2
  · exact refdec_bad m s h w

end Go.Proofs.Yteeglmfjogoggaa
