/-
  Plain facts: whole numbers reckoned with within 64 bits.
  Conditions: none.
-/
import Derived.Test.YtceingfjdkpolaaPlain1
namespace Go.Proofs.Ytceingfjdkpolaa
open Go.RowKit
set_option linter.unusedVariables false

/-- a number, if it is in 64 bits; else the error -/
def chk (n : Int) : Int × Int := if -9223372036854775808 ≤ n ∧ n ≤ 9223372036854775807 then (n, 0) else (0, 31)

theorem chk_in {n : Int} (h : InI n) : chk n = (n, 0) := by unfold chk; exact if_pos h
theorem chk_out {n : Int} (h : ¬ InI n) : chk n = (0, 31) := by unfold chk; exact if_neg h

theorem w64 (n : Int) : wrap64 n = (n + 9223372036854775808) % 18446744073709551616 - 9223372036854775808 := by unfold wrap64; rfl
theorem w64_in {n : Int} (h : InI n) : wrap64 n = n := by unfold InI at h; rw [w64]; omega

theorem tdiv_bd {p b : Int} : -(p.natAbs : Int) ≤ p.tdiv b ∧ p.tdiv b ≤ (p.natAbs : Int) := by
  have h : (p.tdiv b).natAbs ≤ p.natAbs := by rw [Int.natAbs_tdiv]; exact Nat.div_le_self _ _
  omega

/-- a product that ran round doesn't divide back -/
theorem mul_back {a b : Int} (ha : InI a) (hb : InI b) (h0 : b ≠ 0) (hx : ¬ (b = -1 ∧ a = -9223372036854775808)) : wrap64 ((wrap64 (a * b)).tdiv b) = a ↔ InI (a * b) := by
  constructor
  · intro h
    have hp := wrap_in (a * b)
    have hw := w64 (a * b)
    generalize hp' : wrap64 (a * b) = p at *
    have hq := tdiv_bd (p := p) (b := b)
    have hr := Int.mul_tdiv_add_tmod p b
    have hlt : (p.tmod b).natAbs < b.natAbs := by rw [Int.natAbs_tmod]; exact Nat.mod_lt _ (by omega)
    generalize hqq : p.tdiv b = q at *
    generalize p.tmod b = r at *
    unfold InI at *
    have hqa : q = a := by
      have := w64 q
      by_cases c : q = 9223372036854775808
      · exfalso
        subst c
        have ha' : a = -9223372036854775808 := by omega
        have hp2 : p = -9223372036854775808 := by omega
        subst hp2
        have hb1 : b = -1 := by
          have e1 : (-9223372036854775808 : Int).natAbs / b.natAbs = 9223372036854775808 := by
            have := Int.natAbs_tdiv (-9223372036854775808) b
            rw [hqq] at this
            exact this.symm
          have hbn : b.natAbs = 1 := by
            have h1 : b.natAbs ≠ 0 := by omega
            by_cases h2 : b.natAbs = 1
            · exact h2
            · exfalso
              have h3 : 2 ≤ b.natAbs := by omega
              have h4 : 9223372036854775808 / b.natAbs ≤ 9223372036854775808 / 2 := Nat.div_le_div_left h3 (by decide)
              have e2 : 9223372036854775808 / b.natAbs = 9223372036854775808 := e1
              omega
          rcases Int.natAbs_eq b with e | e
          · rw [hbn] at e
            have e' : b = 1 := e
            subst e'
            rw [Int.tdiv_one] at hqq
            omega
          · rw [hbn] at e
            exact e
        exact hx ⟨hb1, ha'⟩
      · omega
    subst hqa
    have hm : b * q = q * b := Int.mul_comm b q
    generalize q * b = m at *
    omega
  · intro h
    rw [w64_in h, Int.mul_tdiv_cancel _ h0, w64_in ha]

theorem div_in {a b : Int} (ha : InI a) (h0 : b ≠ 0) (hx : ¬ (b = -1 ∧ a = -9223372036854775808)) : InI (a.tdiv b) := by
  have h := tdiv_bd (p := a) (b := b)
  unfold InI at *
  by_cases c : a = -9223372036854775808
  · subst c
    refine ⟨by omega, ?_⟩
    have hb : b ≠ -1 := fun e => hx ⟨e, rfl⟩
    rcases Int.lt_or_le b 0 with hn | hn
    · have e1 : ((-9223372036854775808 : Int).tdiv b).natAbs = (-9223372036854775808 : Int).natAbs / b.natAbs := Int.natAbs_tdiv _ _
      have e2 : (-9223372036854775808 : Int).natAbs = 9223372036854775808 := rfl
      have h4 : 9223372036854775808 / b.natAbs ≤ 9223372036854775808 / 2 := Nat.div_le_div_left (by omega) (by decide)
      rw [e2] at e1
      omega
    · have e1 : ((-9223372036854775808 : Int).tdiv b) = -((9223372036854775808 : Int).tdiv b) := Int.neg_tdiv _ _
      have e2 := Int.tdiv_nonneg (a := 9223372036854775808) (b := b) (by decide) hn
      omega
  · omega

theorem neg_div (a : Int) : a.tdiv (-1) = -a := by rw [Int.tdiv_neg, Int.tdiv_one]
theorem mod_neg1 (a : Int) : a.tmod (-1) = 0 := by rw [Int.tmod_neg, Int.tmod_one]
theorem tmod_in {a b : Int} (ha : InI a) (h0 : b ≠ 0) : InI (a.tmod b) ∧ a.tmod b = a - a.tdiv b * b := by
  have hr := Int.mul_tdiv_add_tmod a b
  have hc := Int.mul_comm b (a.tdiv b)
  have h1 : (a.tmod b).natAbs ≤ a.natAbs := by rw [Int.natAbs_tmod]; exact Nat.mod_le _ _
  have h2 : (a.tmod b).natAbs < b.natAbs := by rw [Int.natAbs_tmod]; exact Nat.mod_lt _ (by omega)
  generalize a.tdiv b * b = m at *
  generalize b * a.tdiv b = m' at *
  refine ⟨?_, by omega⟩
  unfold InI at *
  by_cases c : a = -9223372036854775808
  · rcases Int.lt_or_le (a.tmod b) 0 with hn | hn
    · omega
    · have : (a.tmod b) ≤ 0 := by
        subst c
        have e1 : ((-9223372036854775808 : Int).tmod b) = -((9223372036854775808 : Int).tmod b) := Int.neg_tmod _ _
        have e2 := Int.tmod_nonneg (a := 9223372036854775808) b (by decide)
        omega
      omega
  · omega

/-! a product by parts of 32 bits -/

theorem parts (x : Nat) : x = x / 4294967296 * 4294967296 + x % 4294967296 := by omega

theorem parts_mul (x y : Nat) : x * y = (x / 4294967296) * (y / 4294967296) * 18446744073709551616 + ((x / 4294967296) * (y % 4294967296) + (x % 4294967296) * (y / 4294967296)) * 4294967296 + (x % 4294967296) * (y % 4294967296) := by
  obtain ⟨xh, hx⟩ : ∃ z, x / 4294967296 = z := ⟨_, rfl⟩
  obtain ⟨xl, hx'⟩ : ∃ z, x % 4294967296 = z := ⟨_, rfl⟩
  obtain ⟨yh, hy⟩ : ∃ z, y / 4294967296 = z := ⟨_, rfl⟩
  obtain ⟨yl, hy'⟩ : ∃ z, y % 4294967296 = z := ⟨_, rfl⟩
  have ex : x = xh * 4294967296 + xl := by omega
  have ey : y = yh * 4294967296 + yl := by omega
  rw [hx, hx', hy, hy', ex, ey]
  rw [Nat.add_mul, Nat.mul_add, Nat.mul_add]
  rw [show xh * 4294967296 * (yh * 4294967296) = xh * yh * 18446744073709551616 by rw [Nat.mul_mul_mul_comm]]
  rw [show xh * 4294967296 * yl = xh * yl * 4294967296 by rw [Nat.mul_right_comm]]
  rw [show xl * (yh * 4294967296) = xl * yh * 4294967296 by rw [Nat.mul_assoc]]
  rw [Nat.add_mul]
  omega

end Go.Proofs.Ytceingfjdkpolaa
