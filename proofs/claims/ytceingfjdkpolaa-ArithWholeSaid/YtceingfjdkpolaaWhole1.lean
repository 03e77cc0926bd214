/-
  The document's answer on whole numbers as reals over the translation.
  Conditions: as each lemma says.
-/
import Derived.Test.YtceingfjdkpolaaScale1
namespace Go.Proofs.Ytceingfjdkpolaa
open Go.RowKit

theorem rofint_pos (n k : Nat) (h1 : 2 ^ k ≤ n) (h2 : n < 2 ^ (k + 1)) (hk : k ≤ 63) : ROfInt n = (wholeRung n k : Int) := by
  have hlt := wholeRung_lt h2 hk
  have e : floatOfInt .f64 (n : Int) = wholeRung n k := by
    have := nearest_whole false n k h1 h2 hk
    rw [word_sr] at this
    simp only [Bool.false_eq_true, if_false, Nat.zero_add] at this
    rw [← this]
    show Ieee.double.nearest (decide ((n : Int) < 0)) (n : Int).natAbs 0 = _
    rw [decide_eq_false (by omega)]
    rfl
  have hn : rnan (floatOfInt .f64 (n : Int)) = false := nearest_num _ _ _
  unfold ROfInt RBits
  rw [hn, if_neg (by decide), e]
  unfold wrap64; omega

theorem rofint_neg (n k : Nat) (h1 : 2 ^ k ≤ n) (h2 : n < 2 ^ (k + 1)) (hk : k ≤ 63) : ROfInt (-(n : Int)) = (wholeRung n k : Int) - 9223372036854775808 := by
  have hlt := wholeRung_lt h2 hk
  have h0 : 0 < n := Nat.lt_of_lt_of_le (Nat.two_pow_pos k) h1
  have e : floatOfInt .f64 (-(n : Int)) = 9223372036854775808 + wholeRung n k := by
    have := nearest_whole true n k h1 h2 hk
    rw [word_sr] at this
    simp only [if_true] at this
    rw [← this]
    show Ieee.double.nearest (decide (-(n : Int) < 0)) (-(n : Int)).natAbs 0 = _
    rw [decide_eq_true (by omega), Int.natAbs_neg, Int.natAbs_natCast]
  have hn : rnan (floatOfInt .f64 (-(n : Int))) = false := nearest_num _ _ _
  unfold ROfInt RBits
  rw [hn, if_neg (by decide), e]
  unfold wrap64; omega

theorem castpow (j : Nat) : (2 : Int) ^ j = ((2 ^ j : Nat) : Int) := by rw [Int.natCast_pow]; rfl
theorem castdiv (n j : Nat) : (n : Int) / 2 ^ j = ((n / 2 ^ j : Nat) : Int) := by rw [castpow, Int.natCast_ediv]
theorem ne0 {z : Nat} (h : ¬ z = 0) : ((z : Int) == 0) = false := by simp; omega

theorem rofint_zero : ROfInt 0 = 0 := by decide +kernel

set_option maxHeartbeats 2000000 in
theorem refofint_pos (n : Nat) (h0 : 0 < n) (h1 : n < 9223372036854775808) (w : World) :
    Calls Try.prog 25 #[.int .i64 n] w fun e w' => e = .returned (.int .i64 (ROfInt n)) ∧ w = w' := by
  have hz : ((n : Int) == 0) = false := by simp; omega
  have hneg : ¬ (n : Int) < 0 := by omega
  have hn : (n : Int) ≤ 9223372036854775807 := by omega
  go_enter Try.func25, Try.ntmps25
  go_wp2
  go_loop [5] (fun t => ∃ k : Nat, k ≤ 63 ∧ t = .int .i64 k ∧ n < 2 ^ (k + 1)) (fun t => (intOf t).toNat)
  case atStart => exact ⟨63, by omega, rfl, by omega⟩
  case round =>
    obtain ⟨k, hk, rfl, hlt⟩ := hrel
    by_cases hge : n / 2 ^ k = 0
    · have hb : ((n : Int) / 2 ^ k == 0) = true := by
        rw [castdiv, hge]; rfl
      have hk0 : k ≠ 0 := by
        intro e; subst e; simp at hge; omega
      have hlt2 : n < 2 ^ (k - 1 + 1) := by
        rw [show k - 1 + 1 = k from by omega]
        have := Nat.two_pow_pos k
        exact (Nat.div_eq_zero_iff_lt this).1 hge
      clear hge
      go_wp2
      go_round
      case rel => exact ⟨k - 1, by omega, by first | go_num | (congr 1; omega), hlt2⟩
      case measure => simp [intOf]; omega
    · have hb : ((n : Int) / 2 ^ k == 0) = false := by
        rw [castdiv]; exact ne0 hge
      have hle : 2 ^ k ≤ n := by
        have := Nat.two_pow_pos k
        rcases Nat.lt_or_ge n (2 ^ k) with h | h
        · exact absurd (Nat.div_eq_of_lt h) hge
        · exact h
      have hval := wholeRung_lt hlt hk
      have HV := rofint_pos n k hle hlt hk
      by_cases c : k ≤ 52
      · have hsm := whole_small hlt c
        have ew : wholeRung n k = (k + 1022) * 4503599627370496 + n * 2 ^ (52 - k) := by unfold wholeRung; rw [if_pos c]
        rw [ew] at HV
        have hm : IntKind.u64.wrap ((n : Int) * 2 ^ (52 - k)) = ((n * 2 ^ (52 - k) : Nat) : Int) := by
          rw [IntKind.wrap_u64]
          rw [castpow, ← Int.natCast_mul]; omega
        generalize n * 2 ^ (52 - k) = m at *
        have HVV := Lib.hid HV
        clear hge hle HV ew
        go_wp2
        go_ret
        exact ⟨ret_i (by rw [HVV.out]; first | omega | (simp only [IntKind.wrap_u64]; omega) | (unfold wrap64; omega)), rfl⟩
      · have hq := whole_quot hlt (Nat.lt_of_not_le c)
        have ew : wholeRung n k = (k + 1022) * 4503599627370496 + (n / 2 ^ (k - 52) + (if 2 ^ (k - 52) < 2 * (n % 2 ^ (k - 52)) ∨ (2 ^ (k - 52) = 2 * (n % 2 ^ (k - 52)) ∧ n / 2 ^ (k - 52) % 2 = 1) then 1 else 0)) := by unfold wholeRung; rw [if_neg c]
        rw [ew] at HV
        have e0 : (n : Int) / 2 ^ (k - 52) = ((n / 2 ^ (k - 52) : Nat) : Int) := castdiv _ _
        have hdm := Nat.div_add_mod n (2 ^ (k - 52))
        have hP : (2 : Int) ^ (k - 52) = ((2 ^ (k - 52) : Nat) : Int) := castpow _
        have hH : (2 : Int) ^ (k - 52 - 1) = ((2 ^ (k - 52 - 1) : Nat) : Int) := castpow _
        have hPH : 2 ^ (k - 52) = 2 * 2 ^ (k - 52 - 1) := by
          rw [← Nat.pow_succ']; congr 1; omega
        have hr : n % 2 ^ (k - 52) ≤ n := Nat.mod_le _ _
        have hHs : 2 ^ (k - 52 - 1) ≤ 2 ^ 11 := Nat.pow_le_pow_right (by decide) (by omega)
        have hS : n / 2 ^ (k - 52) * 2 ^ (k - 52) ≤ n := Nat.div_mul_le_self _ _
        rw [Nat.mul_comm] at hdm
        have e1 : IntKind.u64.wrap (((n / 2 ^ (k - 52) : Nat) : Int) * 2 ^ (k - 52)) = ((n / 2 ^ (k - 52) * 2 ^ (k - 52) : Nat) : Int) := by
          rw [hP, ← Int.natCast_mul, IntKind.wrap_u64]; omega
        have e3 : IntKind.u64.wrap ((2 : Int) ^ (k - 52 - 1)) = ((2 ^ (k - 52 - 1) : Nat) : Int) := by
          rw [hH, IntKind.wrap_u64]; omega
        have hb4 : bits .and .u64 ((n / 2 ^ (k - 52) : Nat) : Int) 1 = ((n / 2 ^ (k - 52) % 2 : Nat) : Int) := by
          have := bits_and_u64_nat (n / 2 ^ (k - 52)) 1 (by omega) (by decide)
          rw [show ((1 : Nat) : Int) = 1 from rfl] at this
          rw [this, Nat.and_one_is_mod]
        clear hP hH
        generalize n / 2 ^ (k - 52) * 2 ^ (k - 52) = S at *
        generalize n / 2 ^ (k - 52) = q at *
        generalize n % 2 ^ (k - 52) = r at *
        generalize 2 ^ (k - 52) = P at *
        generalize 2 ^ (k - 52 - 1) = h at *
        have hq2 : q % 2 = 0 ∨ q % 2 = 1 := by omega
        generalize q % 2 = b at *
        have e2 : IntKind.u64.wrap ((n : Int) - (S : Int)) = (r : Int) := by rw [IntKind.wrap_u64]; omega
        have T : (h < r) ∨ (r = h ∧ b = 1) ∨ (r = h ∧ b = 0) ∨ (r < h) := by omega
        rcases T with T | ⟨T, Tb⟩ | ⟨T, Tb⟩ | T
        · rw [if_pos (by omega)] at HV
          have HVV := Lib.hid HV
          clear hge hle HV ew hdm hPH
          have T' : (h : Int) < (r : Int) := by omega
          go_wp2
          go_ret
          exact ⟨ret_i (by rw [HVV.out]; first | omega | (simp only [IntKind.wrap_u64]; omega) | (unfold wrap64; omega)), rfl⟩
        · rw [if_pos (by omega)] at HV
          have HVV := Lib.hid HV
          subst T Tb
          clear hge hle HV ew hdm hPH
          go_wp2
          go_ret
          exact ⟨ret_i (by rw [HVV.out]; first | omega | (simp only [IntKind.wrap_u64]; omega) | (unfold wrap64; omega)), rfl⟩
        · rw [if_neg (by omega)] at HV
          have HVV := Lib.hid HV
          subst T Tb
          clear hge hle HV ew hdm hPH
          go_wp2
          go_ret
          exact ⟨ret_i (by rw [HVV.out]; first | omega | (simp only [IntKind.wrap_u64]; omega) | (unfold wrap64; omega)), rfl⟩
        · rw [if_neg (by omega)] at HV
          have HVV := Lib.hid HV
          clear hge hle HV ew hdm hPH
          have T' : ¬ (h : Int) < (r : Int) := by omega
          have T2 : ((r : Int) == (h : Int)) = false := by simp; omega
          go_wp2
          go_ret
          exact ⟨ret_i (by rw [HVV.out]; first | omega | (simp only [IntKind.wrap_u64]; omega) | (unfold wrap64; omega)), rfl⟩

set_option maxHeartbeats 2000000 in
theorem refofint_neg (n : Nat) (h0 : 0 < n) (h1 : n ≤ 9223372036854775808) (w : World) :
    Calls Try.prog 25 #[.int .i64 (-(n : Int))] w fun e w' => e = .returned (.int .i64 (ROfInt (-(n : Int)))) ∧ w = w' := by
  have hz : (-(n : Int) == 0) = false := by simp; omega
  have hneg : -(n : Int) < 0 := by omega
  have hn : (n : Int) ≤ 9223372036854775808 := by omega
  have hn0 : (0 : Int) < (n : Int) := by omega
  obtain ⟨v, hv⟩ : ∃ v : Nat, v = 18446744073709551616 - n := ⟨_, rfl⟩
  have hw : IntKind.u64.wrap (-(n : Int)) = (v : Int) := by rw [IntKind.wrap_u64]; omega
  have hw2 : IntKind.u64.wrap (-(v : Int)) = (n : Int) := by rw [IntKind.wrap_u64]; omega
  have hw3 : IntKind.u64.wrap (0 - (v : Int)) = (n : Int) := by rw [IntKind.wrap_u64]; omega
  clear hv
  generalize hm : -(n : Int) = mn at *
  have HM := Lib.hid hm
  clear hm
  go_enter Try.func25, Try.ntmps25
  go_wp2
  go_loop [5] (fun t => ∃ k : Nat, k ≤ 63 ∧ t = .int .i64 k ∧ n < 2 ^ (k + 1)) (fun t => (intOf t).toNat)
  case atStart => exact ⟨63, by omega, rfl, by omega⟩
  case round =>
    obtain ⟨k, hk, rfl, hlt⟩ := hrel
    by_cases hge : n / 2 ^ k = 0
    · have hb : ((n : Int) / 2 ^ k == 0) = true := by
        rw [castdiv, hge]; rfl
      have hk0 : k ≠ 0 := by
        intro e; subst e; simp at hge; omega
      have hlt2 : n < 2 ^ (k - 1 + 1) := by
        rw [show k - 1 + 1 = k from by omega]
        have := Nat.two_pow_pos k
        exact (Nat.div_eq_zero_iff_lt this).1 hge
      clear hge
      go_wp2
      go_round
      case rel => exact ⟨k - 1, by omega, by first | go_num | (congr 1; omega), hlt2⟩
      case measure => simp [intOf]; omega
    · have hb : ((n : Int) / 2 ^ k == 0) = false := by
        rw [castdiv]; exact ne0 hge
      have hle : 2 ^ k ≤ n := by
        have := Nat.two_pow_pos k
        rcases Nat.lt_or_ge n (2 ^ k) with h | h
        · exact absurd (Nat.div_eq_of_lt h) hge
        · exact h
      have hval := wholeRung_lt hlt hk
      have HV := rofint_neg n k hle hlt hk
      by_cases c : k ≤ 52
      · have hsm := whole_small hlt c
        have ew : wholeRung n k = (k + 1022) * 4503599627370496 + n * 2 ^ (52 - k) := by unfold wholeRung; rw [if_pos c]
        rw [ew] at HV
        have hm : IntKind.u64.wrap ((n : Int) * 2 ^ (52 - k)) = ((n * 2 ^ (52 - k) : Nat) : Int) := by
          rw [IntKind.wrap_u64]
          rw [castpow, ← Int.natCast_mul]; omega
        generalize n * 2 ^ (52 - k) = m at *
        have HVV := Lib.hid HV
        clear hge hle HV ew
        go_wp2
        go_ret
        exact ⟨ret_i (by rw [← HM.out, HVV.out]; first | omega | (simp only [IntKind.wrap_u64]; omega) | (unfold wrap64; omega)), rfl⟩
      · have hq := whole_quot hlt (Nat.lt_of_not_le c)
        have ew : wholeRung n k = (k + 1022) * 4503599627370496 + (n / 2 ^ (k - 52) + (if 2 ^ (k - 52) < 2 * (n % 2 ^ (k - 52)) ∨ (2 ^ (k - 52) = 2 * (n % 2 ^ (k - 52)) ∧ n / 2 ^ (k - 52) % 2 = 1) then 1 else 0)) := by unfold wholeRung; rw [if_neg c]
        rw [ew] at HV
        have e0 : (n : Int) / 2 ^ (k - 52) = ((n / 2 ^ (k - 52) : Nat) : Int) := castdiv _ _
        have hdm := Nat.div_add_mod n (2 ^ (k - 52))
        have hP : (2 : Int) ^ (k - 52) = ((2 ^ (k - 52) : Nat) : Int) := castpow _
        have hH : (2 : Int) ^ (k - 52 - 1) = ((2 ^ (k - 52 - 1) : Nat) : Int) := castpow _
        have hPH : 2 ^ (k - 52) = 2 * 2 ^ (k - 52 - 1) := by
          rw [← Nat.pow_succ']; congr 1; omega
        have hr : n % 2 ^ (k - 52) ≤ n := Nat.mod_le _ _
        have hHs : 2 ^ (k - 52 - 1) ≤ 2 ^ 11 := Nat.pow_le_pow_right (by decide) (by omega)
        have hS : n / 2 ^ (k - 52) * 2 ^ (k - 52) ≤ n := Nat.div_mul_le_self _ _
        rw [Nat.mul_comm] at hdm
        have e1 : IntKind.u64.wrap (((n / 2 ^ (k - 52) : Nat) : Int) * 2 ^ (k - 52)) = ((n / 2 ^ (k - 52) * 2 ^ (k - 52) : Nat) : Int) := by
          rw [hP, ← Int.natCast_mul, IntKind.wrap_u64]; omega
        have e3 : IntKind.u64.wrap ((2 : Int) ^ (k - 52 - 1)) = ((2 ^ (k - 52 - 1) : Nat) : Int) := by
          rw [hH, IntKind.wrap_u64]; omega
        have hb4 : bits .and .u64 ((n / 2 ^ (k - 52) : Nat) : Int) 1 = ((n / 2 ^ (k - 52) % 2 : Nat) : Int) := by
          have := bits_and_u64_nat (n / 2 ^ (k - 52)) 1 (by omega) (by decide)
          rw [show ((1 : Nat) : Int) = 1 from rfl] at this
          rw [this, Nat.and_one_is_mod]
        clear hP hH
        generalize n / 2 ^ (k - 52) * 2 ^ (k - 52) = S at *
        generalize n / 2 ^ (k - 52) = q at *
        generalize n % 2 ^ (k - 52) = r at *
        generalize 2 ^ (k - 52) = P at *
        generalize 2 ^ (k - 52 - 1) = h at *
        have hq2 : q % 2 = 0 ∨ q % 2 = 1 := by omega
        generalize q % 2 = b at *
        have e2 : IntKind.u64.wrap ((n : Int) - (S : Int)) = (r : Int) := by rw [IntKind.wrap_u64]; omega
        have T : (h < r) ∨ (r = h ∧ b = 1) ∨ (r = h ∧ b = 0) ∨ (r < h) := by omega
        rcases T with T | ⟨T, Tb⟩ | ⟨T, Tb⟩ | T
        · rw [if_pos (by omega)] at HV
          have HVV := Lib.hid HV
          clear hge hle HV ew hdm hPH
          have T' : (h : Int) < (r : Int) := by omega
          go_wp2
          go_ret
          exact ⟨ret_i (by rw [← HM.out, HVV.out]; first | omega | (simp only [IntKind.wrap_u64]; omega) | (unfold wrap64; omega)), rfl⟩
        · rw [if_pos (by omega)] at HV
          have HVV := Lib.hid HV
          subst T Tb
          clear hge hle HV ew hdm hPH
          go_wp2
          go_ret
          exact ⟨ret_i (by rw [← HM.out, HVV.out]; first | omega | (simp only [IntKind.wrap_u64]; omega) | (unfold wrap64; omega)), rfl⟩
        · rw [if_neg (by omega)] at HV
          have HVV := Lib.hid HV
          subst T Tb
          clear hge hle HV ew hdm hPH
          go_wp2
          go_ret
          exact ⟨ret_i (by rw [← HM.out, HVV.out]; first | omega | (simp only [IntKind.wrap_u64]; omega) | (unfold wrap64; omega)), rfl⟩
        · rw [if_neg (by omega)] at HV
          have HVV := Lib.hid HV
          clear hge hle HV ew hdm hPH
          have T' : ¬ (h : Int) < (r : Int) := by omega
          have T2 : ((r : Int) == (h : Int)) = false := by simp; omega
          go_wp2
          go_ret
          exact ⟨ret_i (by rw [← HM.out, HVV.out]; first | omega | (simp only [IntKind.wrap_u64]; omega) | (unfold wrap64; omega)), rfl⟩

theorem refofint_any (n : Int) (h : InI n) (w : World) :
    Calls Try.prog 25 #[.int .i64 n] w fun e w' => e = .returned (.int .i64 (ROfInt n)) ∧ w = w' := by
  obtain ⟨h1, h2⟩ := h
  rcases Int.lt_trichotomy n 0 with c | c | c
  · obtain ⟨m, hm⟩ : ∃ m : Nat, n = -(m : Int) := ⟨n.natAbs, by omega⟩
    subst hm
    exact refofint_neg m (by omega) (by omega) w
  · subst c
    rw [rofint_zero]
    go_enter Try.func25, Try.ntmps25
    go_wp2
    go_ret
    exact ⟨rfl, rfl⟩
  · obtain ⟨m, rfl⟩ := Int.eq_ofNat_of_zero_le (show 0 ≤ n by omega)
    exact refofint_pos m (by omega) (by omega) w

end Go.Proofs.Ytceingfjdkpolaa
