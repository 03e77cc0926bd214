/-
  A product by parts of 32 bits is the product, or it is told to be too great.
  Conditions: the numbers are of 64 bits.
-/
import Derived.Test.YtceingfjdkpolaaAri11
namespace Go.Proofs.Ytceingfjdkpolaa
open Go.RowKit
set_option linter.unusedVariables false

theorem mul_small {x y a b : Nat} (h : x < a) (g : y < b) (ha : 0 < a) : x * y < a * b := Nat.mul_lt_mul_of_lt_of_le h (by omega) (by omega)

theorem wrapm (n : Nat) : IntKind.u64.wrap (n : Int) = ((n % 18446744073709551616 : Nat) : Int) := by rw [IntKind.wrap_u64]; omega
theorem wrapneg (n : Nat) (h : n < 18446744073709551616) : IntKind.u64.wrap (-(n : Int)) = (((18446744073709551616 - n) % 18446744073709551616 : Nat) : Int) := by rw [IntKind.wrap_u64]; omega

set_option maxHeartbeats 1000000 in
theorem parts_of (X Y : Nat) (hX : X ≤ 9223372036854775808) (hY : Y ≤ 9223372036854775808) :
    ∃ xh xl yh yl A B M Mh L S Nn V : Nat, Parts X Y xh xl yh yl A B M Mh L S Nn V ∧ Outc xh yh Mh L Nn (18446744073709551616 ≤ X * Y) ∧ (¬ 18446744073709551616 ≤ X * Y → Nn = X * Y) ∧ (Nn < 18446744073709551616) ∧ V = (18446744073709551616 - Nn) % 18446744073709551616 := by
  have hmul := parts_mul X Y
  obtain ⟨xh, e1⟩ : ∃ z, X / 4294967296 = z := ⟨_, rfl⟩
  obtain ⟨xl, e2⟩ : ∃ z, X % 4294967296 = z := ⟨_, rfl⟩
  obtain ⟨yh, e3⟩ : ∃ z, Y / 4294967296 = z := ⟨_, rfl⟩
  obtain ⟨yl, e4⟩ : ∃ z, Y % 4294967296 = z := ⟨_, rfl⟩
  have b1 : xh < 2147483649 := by omega
  have b2 : xl < 4294967296 := by omega
  have b3 : yh < 2147483649 := by omega
  have b4 : yl < 4294967296 := by omega
  have m2 := and32 X (by omega)
  have m3 := and32 Y (by omega)
  rw [e1, e2, e3, e4] at hmul
  rw [e2] at m2
  rw [e4] at m3
  have hA : xh * yl < 2147483649 * 4294967296 := mul_small b1 b4 (by decide)
  have hB : xl * yh < 4294967296 * 2147483649 := mul_small b2 b3 (by decide)
  have hL : xl * yl < 4294967296 * 4294967296 := mul_small b2 b4 (by decide)
  have cA : ((xh : Int) * (yl : Int)) = ((xh * yl : Nat) : Int) := by rw [Int.natCast_mul]
  have cB : ((xl : Int) * (yh : Int)) = ((xl * yh : Nat) : Int) := by rw [Int.natCast_mul]
  have cL : ((xl : Int) * (yl : Int)) = ((xl * yl : Nat) : Int) := by rw [Int.natCast_mul]
  have hP : (0 < xh ∧ 0 < yh) → 1 ≤ xh * yh := fun ⟨p, q⟩ => Nat.mul_pos p q
  have hZ : ¬ (0 < xh ∧ 0 < yh) → xh * yh = 0 := fun h => by
    by_cases c : xh = 0
    · rw [c, Nat.zero_mul]
    · rw [show yh = 0 by omega, Nat.mul_zero]
  obtain ⟨A, eA⟩ : ∃ z, xh * yl = z := ⟨_, rfl⟩
  obtain ⟨B, eB⟩ : ∃ z, xl * yh = z := ⟨_, rfl⟩
  obtain ⟨L, eL⟩ : ∃ z, xl * yl = z := ⟨_, rfl⟩
  obtain ⟨H, eH⟩ : ∃ z, xh * yh = z := ⟨_, rfl⟩
  obtain ⟨P, eP⟩ : ∃ z, X * Y = z := ⟨_, rfl⟩
  rw [eA] at hA cA hmul
  rw [eB] at hB cB hmul
  rw [eL] at hL cL hmul
  rw [eH] at hP hZ hmul
  rw [eP] at hmul
  rw [eP]
  have hAB : A + B < 18446744073709551616 := by
    by_cases c : xl = 0
    · have : B = 0 := by rw [← eB, c, Nat.zero_mul]
      omega
    · by_cases d : yl = 0
      · have : A = 0 := by rw [← eA, d, Nat.mul_zero]
        omega
      · have h1 : xh * yl < 2147483648 * 4294967296 := mul_small (by omega) b4 (by decide)
        have h2 : xl * yh < 4294967296 * 2147483648 := mul_small b2 (by omega) (by decide)
        rw [eA] at h1
        rw [eB] at h2
        omega
  obtain ⟨M, eM⟩ : ∃ z, A + B = z := ⟨_, rfl⟩
  obtain ⟨S, eS⟩ : ∃ z, M * 4294967296 % 18446744073709551616 = z := ⟨_, rfl⟩
  obtain ⟨N, eN⟩ : ∃ z, (S + L) % 18446744073709551616 = z := ⟨_, rfl⟩
  obtain ⟨Mh, eMh⟩ : ∃ z, M / 4294967296 = z := ⟨_, rfl⟩
  have hN : N < 18446744073709551616 := by omega
  have cM : ((A : Int) + (B : Int)) = (M : Int) := by rw [← Int.natCast_add, eM]
  have cS : ((M : Int) * 4294967296) = ((M * 4294967296 : Nat) : Int) := by rw [Int.natCast_mul]; rfl
  have cN : ((S : Int) + (L : Int)) = ((S + L : Nat) : Int) := by rw [Int.natCast_add]
  rw [eM] at hAB
  refine ⟨xh, xl, yh, yl, A, B, M, Mh, L, S, N, (18446744073709551616 - N) % 18446744073709551616, ?_, ?_, ?_, hN, rfl⟩
  · have p1 := wrapu A (by omega)
    have p2 := wrapu B (by omega)
    have p3 := wrapu M hAB
    have p4 := wrapu L (by omega)
    have p5 := wrapm (M * 4294967296)
    have p6 := wrapm (S + L)
    have p7 := wrapneg N hN
    rw [eS] at p5
    rw [eN] at p6
    refine ⟨by clear p1 p2 p3 p4 p5 p6 p7; omega, by clear p1 p2 p3 p4 p5 p6 p7; omega, m2, m3, by rw [cA]; exact p1, by rw [cB]; exact p2, by rw [cM]; exact p3, by clear p1 p2 p3 p4 p5 p6 p7; omega, by rw [cL]; exact p4, by rw [cS]; exact p5, by rw [cN]; exact p6, p7, by rw [Int.zero_sub]; exact p7⟩
  · clear m2 m3 cA cB cL cM cS cN
    rw [Nat.add_mul] at hmul
    unfold Outc
    by_cases h : 0 < xh ∧ 0 < yh
    · left
      have := hP h
      exact ⟨by omega, h⟩
    · right
      have h0 := hZ h
      refine ⟨?_, ?_⟩
      · by_cases c : 0 < xh
        · right; exact ⟨c, by simp; omega⟩
        · left; simp; omega
      · by_cases c : 0 < Mh
        · left; exact ⟨by omega, c⟩
        · right
          refine ⟨by simp; omega, ?_⟩
          by_cases d : 18446744073709551616 ≤ P
          · left; exact ⟨d, by omega⟩
          · right; exact ⟨d, by simp; omega⟩
  · intro h
    clear m2 m3 cA cB cL cM cS cN
    rw [Nat.add_mul] at hmul
    by_cases c : 0 < xh ∧ 0 < yh
    · have := hP c; omega
    · have := hZ c; omega

def MulIs (a b : Int) (e : Ending) : Prop := ∃ x f, e = .returned (.tuple #[.int .i64 x, .bool f]) ∧ ((f = true ∧ x = a * b ∧ InI (a * b)) ∨ (f = false ∧ ¬ InI (a * b)))

theorem rmul_any (a b : Int) (ha : InI a) (hb : InI b) (w : World) :
    Calls Try.prog 36 #[.int .i64 a, .int .i64 b] w fun e w' => MulIs a b e ∧ w = w' := by
  unfold InI at ha hb
  obtain ⟨xh, xl, yh, yl, A, B, M, Mh, L, S, Nn, V, hp, ho, hn, hlt, hV⟩ := parts_of a.natAbs b.natAbs (by omega) (by omega)
  have hab : a * b = (a.natAbs : Int) * (b.natAbs : Int) ∧ (0 ≤ a ∧ 0 ≤ b ∨ a < 0 ∧ b < 0) ∨ a * b = -((a.natAbs : Int) * (b.natAbs : Int)) ∧ (0 ≤ a ∧ b < 0 ∨ a < 0 ∧ 0 ≤ b) := by
    rcases Int.lt_or_le a 0 with h | h <;> rcases Int.lt_or_le b 0 with g | g
    · left
      refine ⟨?_, .inr ⟨h, g⟩⟩
      rw [show (a.natAbs : Int) = -a by omega, show (b.natAbs : Int) = -b by omega, Int.neg_mul_neg]
    · right
      refine ⟨?_, .inr ⟨h, g⟩⟩
      rw [show (a.natAbs : Int) = -a by omega, show (b.natAbs : Int) = b by omega, Int.neg_mul, Int.neg_neg]
    · right
      refine ⟨?_, .inl ⟨h, g⟩⟩
      rw [show (a.natAbs : Int) = a by omega, show (b.natAbs : Int) = -b by omega, Int.mul_neg, Int.neg_neg]
    · left
      refine ⟨?_, .inl ⟨h, g⟩⟩
      rw [show (a.natAbs : Int) = a by omega, show (b.natAbs : Int) = b by omega]
  rw [← Int.natCast_mul] at hab
  have hfin : ∀ (e : Ending) (r : Int) (f : Bool), ((18446744073709551616 ≤ a.natAbs * b.natAbs ∧ e = .returned (.tuple #[.int .i64 0, .bool false])) ∨ (¬ 18446744073709551616 ≤ a.natAbs * b.natAbs ∧ e = .returned (.tuple #[.int .i64 r, .bool f]))) →
      (¬ 18446744073709551616 ≤ a.natAbs * b.natAbs → (f = true ∧ r = a * b ∧ InI (a * b)) ∨ (f = false ∧ ¬ InI (a * b))) → MulIs a b e := by
    intro e r f h1 h2
    rcases h1 with ⟨p, rfl⟩ | ⟨p, rfl⟩
    · refine ⟨0, false, rfl, .inr ⟨rfl, ?_⟩⟩
      unfold InI
      rcases hab with ⟨q, -⟩ | ⟨q, -⟩ <;> rw [q] <;> omega
    · exact ⟨r, f, rfl, h2 p⟩
  rcases hab with ⟨q, ⟨c, d⟩ | ⟨c, d⟩⟩ | ⟨q, ⟨c, d⟩ | ⟨c, d⟩⟩
  · refine (refmul_PP a b a.natAbs b.natAbs xh xl yh yl A B M Mh L S Nn V (by simp; omega) (by rw [IntKind.wrap_u64]; omega) (by simp; omega) (by rw [IntKind.wrap_u64]; omega) hp _ ho (decide ((Nn : Int) < 9223372036854775808)) rfl w).mono ?_
    rintro e w' ⟨h, rfl⟩
    refine ⟨hfin e _ _ h (fun g => ?_), rfl⟩
    have hn' := hn g
    rw [q]
    generalize a.natAbs * b.natAbs = P at *
    unfold InI
    rw [w64]
    by_cases z : (Nn : Int) < 9223372036854775808
    · left; exact ⟨by simpa using z, by omega, by omega⟩
    · right; exact ⟨by simpa using z, by omega⟩
  · refine (refmul_NN a b a.natAbs b.natAbs xh xl yh yl A B M Mh L S Nn V (18446744073709551616 - a.natAbs) c (by rw [IntKind.wrap_u64]; omega) (by rw [IntKind.wrap_u64]; omega) (by rw [IntKind.wrap_u64]; omega) (18446744073709551616 - b.natAbs) d (by rw [IntKind.wrap_u64]; omega) (by rw [IntKind.wrap_u64]; omega) (by rw [IntKind.wrap_u64]; omega) hp _ ho (decide ((Nn : Int) < 9223372036854775808)) rfl w).mono ?_
    rintro e w' ⟨h, rfl⟩
    refine ⟨hfin e _ _ h (fun g => ?_), rfl⟩
    have hn' := hn g
    rw [q]
    generalize a.natAbs * b.natAbs = P at *
    unfold InI
    rw [w64]
    by_cases z : (Nn : Int) < 9223372036854775808
    · left; exact ⟨by simpa using z, by omega, by omega⟩
    · right; exact ⟨by simpa using z, by omega⟩
  · refine (refmul_PN a b a.natAbs b.natAbs xh xl yh yl A B M Mh L S Nn V (by simp; omega) (by rw [IntKind.wrap_u64]; omega) (18446744073709551616 - b.natAbs) d (by rw [IntKind.wrap_u64]; omega) (by rw [IntKind.wrap_u64]; omega) (by rw [IntKind.wrap_u64]; omega) hp _ ho (decide ((Nn : Int) ≤ 9223372036854775808)) rfl w).mono ?_
    rintro e w' ⟨h, rfl⟩
    refine ⟨hfin e _ _ h (fun g => ?_), rfl⟩
    have hn' := hn g
    rw [q]
    generalize a.natAbs * b.natAbs = P at *
    unfold InI
    rw [w64]
    by_cases z : (Nn : Int) ≤ 9223372036854775808
    · left; exact ⟨by simpa using z, by omega, by omega⟩
    · right; exact ⟨by simpa using z, by omega⟩
  · refine (refmul_NP a b a.natAbs b.natAbs xh xl yh yl A B M Mh L S Nn V (18446744073709551616 - a.natAbs) c (by rw [IntKind.wrap_u64]; omega) (by rw [IntKind.wrap_u64]; omega) (by rw [IntKind.wrap_u64]; omega) (by simp; omega) (by rw [IntKind.wrap_u64]; omega) hp _ ho (decide ((Nn : Int) ≤ 9223372036854775808)) rfl w).mono ?_
    rintro e w' ⟨h, rfl⟩
    refine ⟨hfin e _ _ h (fun g => ?_), rfl⟩
    have hn' := hn g
    rw [q]
    generalize a.natAbs * b.natAbs = P at *
    unfold InI
    rw [w64]
    by_cases z : (Nn : Int) ≤ 9223372036854775808
    · left; exact ⟨by simpa using z, by omega, by omega⟩
    · right; exact ⟨by simpa using z, by omega⟩

end Go.Proofs.Ytceingfjdkpolaa
