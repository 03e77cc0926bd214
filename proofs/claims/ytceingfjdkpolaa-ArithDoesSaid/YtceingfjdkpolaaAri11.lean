/-
  Contracts over the translation: a product by parts of 32 bits, by the document's answer.
  Conditions: the numbers are of 64 bits.
-/
import Derived.Test.YtceingfjdkpolaaAri3
namespace Go.Proofs.Ytceingfjdkpolaa
open Go.RowKit
set_option linter.unusedVariables false

theorem and32 (n : Nat) (h : n < 18446744073709551616) : bits .and .u64 (n : Int) 4294967295 = ((n % 4294967296 : Nat) : Int) := by
  have := bits_and_u64_nat n 4294967295 h (by decide)
  rw [show ((4294967295 : Nat) : Int) = 4294967295 from rfl] at this
  rw [this, show (4294967295 : Nat) = 2 ^ 32 - 1 from rfl, Nat.and_two_pow_sub_one_eq_mod]

theorem wrapu (n : Nat) (h : n < 18446744073709551616) : IntKind.u64.wrap (n : Int) = (n : Int) := by rw [IntKind.wrap_u64]; omega

/-- the parts of a product -/
structure Parts (X Y xh xl yh yl A B M Mh L S Nn V : Nat) : Prop where
  s1 : (X : Int) / 4294967296 = (xh : Int)
  s2 : (Y : Int) / 4294967296 = (yh : Int)
  m1 : bits .and .u64 (X : Int) 4294967295 = (xl : Int)
  m2 : bits .and .u64 (Y : Int) 4294967295 = (yl : Int)
  pA : IntKind.u64.wrap ((xh : Int) * (yl : Int)) = (A : Int)
  pB : IntKind.u64.wrap ((xl : Int) * (yh : Int)) = (B : Int)
  pM : IntKind.u64.wrap ((A : Int) + (B : Int)) = (M : Int)
  sM : (M : Int) / 4294967296 = (Mh : Int)
  pL : IntKind.u64.wrap ((xl : Int) * (yl : Int)) = (L : Int)
  pS : IntKind.u64.wrap ((M : Int) * 4294967296) = (S : Int)
  pN : IntKind.u64.wrap ((S : Int) + (L : Int)) = (Nn : Int)
  pV : IntKind.u64.wrap (-(Nn : Int)) = (V : Int)
  pV2 : IntKind.u64.wrap (0 - (Nn : Int)) = (V : Int)

/-- how the parts come out -/
def Outc (xh yh Mh L Nn : Nat) (bad : Prop) : Prop :=
  (bad ∧ 0 < xh ∧ 0 < yh) ∨
  ((decide (0 < xh) = false ∨ (0 < xh ∧ decide (0 < yh) = false)) ∧ ((bad ∧ 0 < Mh) ∨ (decide (0 < Mh) = false ∧ ((bad ∧ Nn < L) ∨ (¬ bad ∧ decide (Nn < L) = false)))))

set_option maxHeartbeats 4000000 in
theorem refmul_PP (a b : Int) (X Y xh xl yh yl A B M Mh L S Nn V : Nat) (a0 : decide (a < 0) = false) (a1 : IntKind.u64.wrap a = (X : Int)) (b0 : decide (b < 0) = false) (b1 : IntKind.u64.wrap b = (Y : Int)) (hp : Parts X Y xh xl yh yl A B M Mh L S Nn V) (bad : Prop) (ho : Outc xh yh Mh L Nn bad) (f : Bool) (hf : decide ((Nn : Int) < 9223372036854775808) = f) (w : World) :
    Calls Try.prog 36 #[.int .i64 a, .int .i64 b] w fun e w' => ((bad ∧ e = .returned (.tuple #[.int .i64 0, .bool false])) ∨ (¬ bad ∧ e = .returned (.tuple #[.int .i64 (wrap64 (Nn : Int)), .bool f]))) ∧ w = w' := by
  obtain ⟨s1, s2, m1, m2, pA, pB, pM, sM, pL, pS, pN, pV, pV2⟩ := hp
  generalize hP : (fun (e : Ending) (w' : World) => ((bad ∧ e = .returned (.tuple #[.int .i64 0, .bool false])) ∨ (¬ bad ∧ e = .returned (.tuple #[.int .i64 (wrap64 (Nn : Int)), .bool f]))) ∧ w = w') = P
  have H1 : bad → P (.returned (.tuple #[.int .i64 0, .bool false])) w := fun h => by rw [← hP]; exact ⟨.inl ⟨h, rfl⟩, rfl⟩
  have H2 : ¬ bad → P (.returned (.tuple #[.int .i64 (wrap64 (Nn : Int)), .bool f])) w := fun h => by rw [← hP]; exact ⟨.inr ⟨h, rfl⟩, rfl⟩
  have HH1 := Lib.hid H1
  have HH2 := Lib.hid H2
  clear H1 H2 hP
  rcases ho with ⟨hb, k1, k2⟩ | ⟨k1 | ⟨k1, k2⟩, ⟨hb, k3⟩ | ⟨k3, ⟨hb, k4⟩ | ⟨hb, k4⟩⟩⟩
  · have HB := Lib.hid hb
    clear hb
    go_enter Try.func36, Try.ntmps36
    go_wp2
    exact HH1.out HB.out
  · have HB := Lib.hid hb
    clear hb
    go_enter Try.func36, Try.ntmps36
    go_wp2
    exact HH1.out HB.out
  · have HB := Lib.hid hb
    clear hb
    go_enter Try.func36, Try.ntmps36
    go_wp2
    exact HH1.out HB.out
  · have HB := Lib.hid hb
    clear hb
    go_enter Try.func36, Try.ntmps36
    go_wp2
    exact HH2.out HB.out
  · have HB := Lib.hid hb
    clear hb
    go_enter Try.func36, Try.ntmps36
    go_wp2
    exact HH1.out HB.out
  · have HB := Lib.hid hb
    clear hb
    go_enter Try.func36, Try.ntmps36
    go_wp2
    exact HH1.out HB.out
  · have HB := Lib.hid hb
    clear hb
    go_enter Try.func36, Try.ntmps36
    go_wp2
    exact HH2.out HB.out

set_option maxHeartbeats 4000000 in
theorem refmul_PN (a b : Int) (X Y xh xl yh yl A B M Mh L S Nn V : Nat) (a0 : decide (a < 0) = false) (a1 : IntKind.u64.wrap a = (X : Int)) (Wb : Nat) (b0 : b < 0) (b1 : IntKind.u64.wrap b = (Wb : Int)) (b2 : IntKind.u64.wrap (-(Wb : Int)) = (Y : Int)) (b3 : IntKind.u64.wrap (0 - (Wb : Int)) = (Y : Int)) (hp : Parts X Y xh xl yh yl A B M Mh L S Nn V) (bad : Prop) (ho : Outc xh yh Mh L Nn bad) (f : Bool) (hf : decide ((Nn : Int) ≤ 9223372036854775808) = f) (w : World) :
    Calls Try.prog 36 #[.int .i64 a, .int .i64 b] w fun e w' => ((bad ∧ e = .returned (.tuple #[.int .i64 0, .bool false])) ∨ (¬ bad ∧ e = .returned (.tuple #[.int .i64 (wrap64 (V : Int)), .bool f]))) ∧ w = w' := by
  obtain ⟨s1, s2, m1, m2, pA, pB, pM, sM, pL, pS, pN, pV, pV2⟩ := hp
  generalize hP : (fun (e : Ending) (w' : World) => ((bad ∧ e = .returned (.tuple #[.int .i64 0, .bool false])) ∨ (¬ bad ∧ e = .returned (.tuple #[.int .i64 (wrap64 (V : Int)), .bool f]))) ∧ w = w') = P
  have H1 : bad → P (.returned (.tuple #[.int .i64 0, .bool false])) w := fun h => by rw [← hP]; exact ⟨.inl ⟨h, rfl⟩, rfl⟩
  have H2 : ¬ bad → P (.returned (.tuple #[.int .i64 (wrap64 (V : Int)), .bool f])) w := fun h => by rw [← hP]; exact ⟨.inr ⟨h, rfl⟩, rfl⟩
  have HH1 := Lib.hid H1
  have HH2 := Lib.hid H2
  clear H1 H2 hP
  rcases ho with ⟨hb, k1, k2⟩ | ⟨k1 | ⟨k1, k2⟩, ⟨hb, k3⟩ | ⟨k3, ⟨hb, k4⟩ | ⟨hb, k4⟩⟩⟩
  · have HB := Lib.hid hb
    clear hb
    go_enter Try.func36, Try.ntmps36
    go_wp2
    exact HH1.out HB.out
  · have HB := Lib.hid hb
    clear hb
    go_enter Try.func36, Try.ntmps36
    go_wp2
    exact HH1.out HB.out
  · have HB := Lib.hid hb
    clear hb
    go_enter Try.func36, Try.ntmps36
    go_wp2
    exact HH1.out HB.out
  · have HB := Lib.hid hb
    clear hb
    go_enter Try.func36, Try.ntmps36
    go_wp2
    exact HH2.out HB.out
  · have HB := Lib.hid hb
    clear hb
    go_enter Try.func36, Try.ntmps36
    go_wp2
    exact HH1.out HB.out
  · have HB := Lib.hid hb
    clear hb
    go_enter Try.func36, Try.ntmps36
    go_wp2
    exact HH1.out HB.out
  · have HB := Lib.hid hb
    clear hb
    go_enter Try.func36, Try.ntmps36
    go_wp2
    exact HH2.out HB.out

set_option maxHeartbeats 4000000 in
theorem refmul_NP (a b : Int) (X Y xh xl yh yl A B M Mh L S Nn V : Nat) (Wa : Nat) (a0 : a < 0) (a1 : IntKind.u64.wrap a = (Wa : Int)) (a2 : IntKind.u64.wrap (-(Wa : Int)) = (X : Int)) (a3 : IntKind.u64.wrap (0 - (Wa : Int)) = (X : Int)) (b0 : decide (b < 0) = false) (b1 : IntKind.u64.wrap b = (Y : Int)) (hp : Parts X Y xh xl yh yl A B M Mh L S Nn V) (bad : Prop) (ho : Outc xh yh Mh L Nn bad) (f : Bool) (hf : decide ((Nn : Int) ≤ 9223372036854775808) = f) (w : World) :
    Calls Try.prog 36 #[.int .i64 a, .int .i64 b] w fun e w' => ((bad ∧ e = .returned (.tuple #[.int .i64 0, .bool false])) ∨ (¬ bad ∧ e = .returned (.tuple #[.int .i64 (wrap64 (V : Int)), .bool f]))) ∧ w = w' := by
  obtain ⟨s1, s2, m1, m2, pA, pB, pM, sM, pL, pS, pN, pV, pV2⟩ := hp
  generalize hP : (fun (e : Ending) (w' : World) => ((bad ∧ e = .returned (.tuple #[.int .i64 0, .bool false])) ∨ (¬ bad ∧ e = .returned (.tuple #[.int .i64 (wrap64 (V : Int)), .bool f]))) ∧ w = w') = P
  have H1 : bad → P (.returned (.tuple #[.int .i64 0, .bool false])) w := fun h => by rw [← hP]; exact ⟨.inl ⟨h, rfl⟩, rfl⟩
  have H2 : ¬ bad → P (.returned (.tuple #[.int .i64 (wrap64 (V : Int)), .bool f])) w := fun h => by rw [← hP]; exact ⟨.inr ⟨h, rfl⟩, rfl⟩
  have HH1 := Lib.hid H1
  have HH2 := Lib.hid H2
  clear H1 H2 hP
  rcases ho with ⟨hb, k1, k2⟩ | ⟨k1 | ⟨k1, k2⟩, ⟨hb, k3⟩ | ⟨k3, ⟨hb, k4⟩ | ⟨hb, k4⟩⟩⟩
  · have HB := Lib.hid hb
    clear hb
    go_enter Try.func36, Try.ntmps36
    go_wp2
    exact HH1.out HB.out
  · have HB := Lib.hid hb
    clear hb
    go_enter Try.func36, Try.ntmps36
    go_wp2
    exact HH1.out HB.out
  · have HB := Lib.hid hb
    clear hb
    go_enter Try.func36, Try.ntmps36
    go_wp2
    exact HH1.out HB.out
  · have HB := Lib.hid hb
    clear hb
    go_enter Try.func36, Try.ntmps36
    go_wp2
    exact HH2.out HB.out
  · have HB := Lib.hid hb
    clear hb
    go_enter Try.func36, Try.ntmps36
    go_wp2
    exact HH1.out HB.out
  · have HB := Lib.hid hb
    clear hb
    go_enter Try.func36, Try.ntmps36
    go_wp2
    exact HH1.out HB.out
  · have HB := Lib.hid hb
    clear hb
    go_enter Try.func36, Try.ntmps36
    go_wp2
    exact HH2.out HB.out

set_option maxHeartbeats 4000000 in
theorem refmul_NN (a b : Int) (X Y xh xl yh yl A B M Mh L S Nn V : Nat) (Wa : Nat) (a0 : a < 0) (a1 : IntKind.u64.wrap a = (Wa : Int)) (a2 : IntKind.u64.wrap (-(Wa : Int)) = (X : Int)) (a3 : IntKind.u64.wrap (0 - (Wa : Int)) = (X : Int)) (Wb : Nat) (b0 : b < 0) (b1 : IntKind.u64.wrap b = (Wb : Int)) (b2 : IntKind.u64.wrap (-(Wb : Int)) = (Y : Int)) (b3 : IntKind.u64.wrap (0 - (Wb : Int)) = (Y : Int)) (hp : Parts X Y xh xl yh yl A B M Mh L S Nn V) (bad : Prop) (ho : Outc xh yh Mh L Nn bad) (f : Bool) (hf : decide ((Nn : Int) < 9223372036854775808) = f) (w : World) :
    Calls Try.prog 36 #[.int .i64 a, .int .i64 b] w fun e w' => ((bad ∧ e = .returned (.tuple #[.int .i64 0, .bool false])) ∨ (¬ bad ∧ e = .returned (.tuple #[.int .i64 (wrap64 (Nn : Int)), .bool f]))) ∧ w = w' := by
  obtain ⟨s1, s2, m1, m2, pA, pB, pM, sM, pL, pS, pN, pV, pV2⟩ := hp
  generalize hP : (fun (e : Ending) (w' : World) => ((bad ∧ e = .returned (.tuple #[.int .i64 0, .bool false])) ∨ (¬ bad ∧ e = .returned (.tuple #[.int .i64 (wrap64 (Nn : Int)), .bool f]))) ∧ w = w') = P
  have H1 : bad → P (.returned (.tuple #[.int .i64 0, .bool false])) w := fun h => by rw [← hP]; exact ⟨.inl ⟨h, rfl⟩, rfl⟩
  have H2 : ¬ bad → P (.returned (.tuple #[.int .i64 (wrap64 (Nn : Int)), .bool f])) w := fun h => by rw [← hP]; exact ⟨.inr ⟨h, rfl⟩, rfl⟩
  have HH1 := Lib.hid H1
  have HH2 := Lib.hid H2
  clear H1 H2 hP
  rcases ho with ⟨hb, k1, k2⟩ | ⟨k1 | ⟨k1, k2⟩, ⟨hb, k3⟩ | ⟨k3, ⟨hb, k4⟩ | ⟨hb, k4⟩⟩⟩
  · have HB := Lib.hid hb
    clear hb
    go_enter Try.func36, Try.ntmps36
    go_wp2
    exact HH1.out HB.out
  · have HB := Lib.hid hb
    clear hb
    go_enter Try.func36, Try.ntmps36
    go_wp2
    exact HH1.out HB.out
  · have HB := Lib.hid hb
    clear hb
    go_enter Try.func36, Try.ntmps36
    go_wp2
    exact HH1.out HB.out
  · have HB := Lib.hid hb
    clear hb
    go_enter Try.func36, Try.ntmps36
    go_wp2
    exact HH2.out HB.out
  · have HB := Lib.hid hb
    clear hb
    go_enter Try.func36, Try.ntmps36
    go_wp2
    exact HH1.out HB.out
  · have HB := Lib.hid hb
    clear hb
    go_enter Try.func36, Try.ntmps36
    go_wp2
    exact HH1.out HB.out
  · have HB := Lib.hid hb
    clear hb
    go_enter Try.func36, Try.ntmps36
    go_wp2
    exact HH2.out HB.out

end Go.Proofs.Ytceingfjdkpolaa
