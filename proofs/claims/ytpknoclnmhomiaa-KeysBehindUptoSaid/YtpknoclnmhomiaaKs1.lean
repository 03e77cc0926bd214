/-
  Package keys' own small functions over the translation: a real's place, its bits in order, back; a number's and a text's bytes behind a key.
  Conditions: the numbers are of 64 bits; the text and the key are not too long.
-/
import Derived.Test.YtpknoclnmhomiaaKif
import Derived.Test.YtpknoclnmhomiaaReal
import Derived.Laws.BitsAllLaws
namespace Go.Proofs.Ytpknoclnmhomiaa
open Go.RowKit Go.Joins Go.ChangeShapes Go.WideShapes
set_option linter.unusedVariables false

/-- the number of a real's place -/
def plV (n : Int) : Int := if n = -9223372036854775808 then 0 else PCanon n
def turnV (n : Int) : Int := if n < 0 then -1 - n else n + 9223372036854775808
theorem place_0 {n : Int} (hi : InI n) : POrder n 0 = 0 ↔ n = 0 ∨ n = -9223372036854775808 := by
  have h0 : PPlace 0 = 0 := by decide +kernel
  have hp : PPlace n = 0 ↔ n = 0 ∨ n = -9223372036854775808 := by
    constructor
    · intro h
      unfold PPlace at h
      by_cases c : rnan (ub n) = true
      · rw [if_pos c] at h; exact absurd h (by decide)
      · rw [if_neg c] at h
        have hr : rg (ub n) = 0 := by
          unfold pl at h
          split at h <;> omega
        unfold rg ub at hr
        unfold InI at hi
        rw [IntKind.wrap_u64] at hr
        omega
    · rintro (rfl | rfl)
      · exact h0
      · decide +kernel
  rw [← hp]
  unfold POrder
  rw [h0]
  constructor
  · intro h
    split at h
    · exact absurd h (by decide)
    · split at h
      · exact absurd h (by decide)
      · omega
  · intro h
    rw [h, if_neg (by decide), if_neg (by decide)]
theorem plV_eq {n : Int} (hi : InI n) : plV n = if POrder n 0 = 0 then 0 else PCanon n := by
  unfold plV
  by_cases c : n = -9223372036854775808
  · rw [if_pos c, if_pos ((place_0 hi).2 (.inr c))]
  · rw [if_neg c]
    by_cases d : n = 0
    · subst d
      rw [if_pos ((place_0 hi).2 (.inl rfl))]
      decide +kernel
    · rw [if_neg (fun e => by rcases (place_0 hi).1 e with h | h; exact d h; exact c h)]
theorem plV_in {n : Int} (hi : InI n) : InI (plV n) := by
  unfold plV
  split
  · unfold InI; decide
  · exact pcanon_in hi
theorem turn_plV {n : Int} (hi : InI n) (h : n = PCanon n) : turnV (plV n) = risV n := by
  unfold plV risV
  by_cases c : n = -9223372036854775808
  · rw [if_pos c, if_pos c]; rfl
  · rw [if_neg c, if_neg c, ← h]; rfl
theorem turn_in {n : Int} (h : InI n) : 0 ≤ turnV n ∧ turnV n < 18446744073709551616 := by
  unfold InI at h
  unfold turnV
  split <;> omega
theorem xor_top (a : Nat) (ha : a < 18446744073709551616) : bits .xor .u64 (a : Int) 9223372036854775808 = ((if a < 9223372036854775808 then a + 9223372036854775808 else a - 9223372036854775808 : Nat) : Int) := by
  rw [show (9223372036854775808 : Int) = ((9223372036854775808 : Nat) : Int) from rfl, u64_xor_nat a 9223372036854775808 ha (by decide)]
  have := ng_eq a ha
  unfold ng at this
  rw [← this]
theorem xor_all (a : Nat) (ha : a < 18446744073709551616) : bits .xor .u64 18446744073709551615 (a : Int) = 18446744073709551615 - (a : Int) := by
  unfold bits
  dsimp only
  rw [IntKind.wrap_u64, BitVec.toNat_xor]
  have h1 : (BitVec.ofInt IntKind.u64.bits (a : Int)).toNat = a := by
    rw [BitVec.toNat_ofInt]
    show ((a : Int) % 18446744073709551616).toNat = a
    omega
  have h2 : (BitVec.ofInt IntKind.u64.bits 18446744073709551615).toNat = 2 ^ 64 - 1 := by decide
  rw [h1, h2]
  have h3 : (2 ^ 64 - 1) ^^^ a = 2 ^ 64 - 1 - a := by
    apply Nat.eq_of_testBit_eq
    intro i
    rw [Nat.testBit_xor, Nat.testBit_two_pow_sub_one, Nat.sub_sub, Nat.add_comm 1 a, Nat.testBit_two_pow_sub_succ (by omega)]
    by_cases c : i < 64
    · simp [c]
    · have : a.testBit i = false := Nat.testBit_lt_two_pow (Nat.lt_of_lt_of_le ha (Nat.pow_le_pow_right (n := 2) (by decide) (show 64 ≤ i by omega)))
      simp [c, this]
  rw [h3]
  omega

theorem placed_any (n : Int) (hi : InI n) (w : World) :
    Calls Try.prog 37 #[.int .i64 n] w fun e w' => e = .returned (.int .i64 (plV n)) ∧ w = w' := by
  rw [plV_eq hi, ← order_eq, ← canon_eq hi]
  have HO := Lib.hid (order_any n 0)
  have HC := Lib.hid (canon_any n)
  by_cases c : ROrder n 0 = 0
  · rw [if_pos c]
    rw [c] at HO
    clear c
    go_enter Try.func37, Try.ntmps37
    go_wp2_with (first | (go_at_call 47; refine (HO.out _).mono ?_; rintro e w' ⟨rfl, rfl⟩))
    go_ret
    exact ⟨rfl, rfl⟩
  · rw [if_neg c]
    have c1 : (ROrder n 0 == 0) = false := by simpa using c
    generalize ROrder n 0 = r at *
    generalize RCanon n = q at *
    go_enter Try.func37, Try.ntmps37
    go_wp2_with (first | (go_at_call 47; refine (HO.out _).mono ?_; rintro e w' ⟨rfl, rfl⟩) | (go_at_call 48; refine (HC.out _).mono ?_; rintro e w' ⟨rfl, rfl⟩))
    go_ret
    exact ⟨rfl, rfl⟩

theorem turn_any (n : Int) (hi : InI n) (w : World) :
    Calls Try.prog 36 #[.int .i64 n] w fun e w' => e = .returned (.int .u64 (turnV n)) ∧ w = w' := by
  obtain ⟨h1, h2⟩ := hi
  unfold turnV
  by_cases b : n < 0
  · rw [if_pos b]
    obtain ⟨a, ha⟩ : ∃ a : Nat, n + 18446744073709551616 = a := ⟨(n + 18446744073709551616).toNat, by omega⟩
    have c1 : IntKind.u64.wrap n = (a : Int) := by rw [IntKind.wrap_u64]; omega
    have c2 := xor_all a (by omega)
    have c3 : (18446744073709551615 : Int) - (a : Int) = -1 - n := by omega
    rw [c3] at c2
    clear c3 ha h1 h2
    go_enter Try.func36, Try.ntmps36
    go_wp2
    go_ret
    refine ⟨ret_i ?_, rfl⟩
    first | rfl | assumption | (simp [*]; done) | (simp [go_sem, *]; done) | (simp_all; done)
  · rw [if_neg b]
    have b' : decide (n < 0) = false := by simpa using b
    obtain ⟨a, ha⟩ : ∃ a : Nat, n = a := ⟨n.toNat, by omega⟩
    have c1 : IntKind.u64.wrap n = (a : Int) := by rw [IntKind.wrap_u64]; omega
    have c2 := xor_top a (by omega)
    rw [if_pos (by omega)] at c2
    have c3 : ((a + 9223372036854775808 : Nat) : Int) = n + 9223372036854775808 := by omega
    rw [c3] at c2
    clear c3 ha h1 h2
    go_enter Try.func36, Try.ntmps36
    go_wp2
    go_ret
    refine ⟨ret_i ?_, rfl⟩
    first | rfl | assumption | (simp [*]; done) | (simp [go_sem, *]; done) | (simp_all; done)

theorem turnback_any (u : Nat) (hu : u < 18446744073709551616) (w : World) :
    Calls Try.prog 42 #[.int .u64 u] w fun e w' => e = .returned (.int .i64 (realN u)) ∧ w = w' := by
  unfold realN
  have ht : bits .and .u64 (u : Int) 9223372036854775808 = ((if u < 9223372036854775808 then 0 else 9223372036854775808 : Nat) : Int) := by
    rw [show (9223372036854775808 : Int) = ((9223372036854775808 : Nat) : Int) from rfl, bits_and_u64_nat u 9223372036854775808 hu (by decide)]
    refine congrArg (fun x : Nat => (x : Int)) ?_
    apply Nat.eq_of_testBit_eq
    intro i
    rw [show (9223372036854775808 : Nat) = 2 ^ 63 from rfl, Nat.testBit_and, Nat.testBit_two_pow]
    by_cases e : 63 = i
    · subst e
      rw [Nat.testBit_eq_decide_div_mod_eq]
      by_cases c : u < 2 ^ 63
      · rw [if_pos c, Nat.div_eq_of_lt c]; rfl
      · rw [if_neg c, show u / 2 ^ 63 = 1 by omega]; decide
    · by_cases c : u < 2 ^ 63
      · rw [if_pos c]; simp [e]
      · rw [if_neg c, Nat.testBit_two_pow]; simp [e]
  by_cases b : u < 9223372036854775808
  · rw [if_pos b]
    rw [if_pos b] at ht
    have c2 := xor_all u hu
    have c3 : IntKind.i64.wrap (18446744073709551615 - (u : Int)) = -1 - (u : Int) := by rw [IntKind.wrap_i64]; omega
    have ht' : bits .and .u64 (u : Int) 9223372036854775808 = 0 := ht
    have c4 : wrap64 (bits .xor .u64 IntKind.u64.max (u : Int)) = -1 - (u : Int) := by
      rw [show IntKind.u64.max = 18446744073709551615 from rfl, c2]
      unfold wrap64
      omega
    clear ht b hu c2 c3
    go_enter Try.func42, Try.ntmps42
    go_wp2
    go_ret
    refine ⟨ret_i ?_, rfl⟩
    first | rfl | assumption | (simp [*]; done) | (simp [go_sem, *]; done) | (simp_all; done)
  · rw [if_neg b]
    rw [if_neg b] at ht
    have c2 := xor_top u hu
    rw [if_neg b] at c2
    have c3 : IntKind.i64.wrap ((u - 9223372036854775808 : Nat) : Int) = (u : Int) - 9223372036854775808 := by rw [IntKind.wrap_i64]; omega
    have ht' : bits .and .u64 (u : Int) 9223372036854775808 = 9223372036854775808 := ht
    clear ht b hu
    go_enter Try.func42, Try.ntmps42
    go_wp2
    go_ret
    refine ⟨ret_i ?_, rfl⟩
    first | rfl | assumption | (simp [*]; done) | (simp [go_sem, *]; done) | (simp_all; done)

end Go.Proofs.Ytpknoclnmhomiaa
