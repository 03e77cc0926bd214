/-
  Contracts over the translation: operators on whole numbers and on reals, by the document's answer.
  Conditions: the numbers are of 64 bits.
-/
import Derived.Test.YtceingfjdkpolaaAri12
import Derived.Test.YtceingfjdkpolaaRef2
namespace Go.Proofs.Ytceingfjdkpolaa
open Go.RowKit
set_option linter.unusedVariables false

theorem sgn (x : Int) : (0 ≤ x ∧ decide (0 ≤ x) = true ∧ decide (x < 0) = false) ∨ (x < 0 ∧ decide (0 ≤ x) = false ∧ decide (x < 0) = true) := by
  rcases Int.lt_or_le x 0 with h | h
  · right; exact ⟨h, by simp; omega, by simpa using h⟩
  · left; exact ⟨h, by simpa using h, by simp; omega⟩

set_option maxHeartbeats 4000000 in
set_option maxRecDepth 100000 in
theorem refwhole_7 (a b : Int) (ha : InI a) (hb : InI b) (w : World) :
    Calls Try.prog 26 #[.int .i64 7, .int .i64 a, .int .i64 b] w fun e w' => e = .returned (.tuple #[.int .i64 (wholeV 7 a b).1, .int .i64 (wholeV 7 a b).2]) ∧ w = w' := by
  rw [show wholeV 7 a b = chk (a + b) by simp [wholeV]]
  obtain ⟨c, hc⟩ : ∃ c, wrap64 (a + b) = c := ⟨_, rfl⟩
  have hv : ((0 ≤ a ∧ 0 ≤ b ∧ c < 0) ∨ (a < 0 ∧ b < 0 ∧ 0 ≤ c)) ∧ chk (a + b) = (0, 31) ∨ ¬ ((0 ≤ a ∧ 0 ≤ b ∧ c < 0) ∨ (a < 0 ∧ b < 0 ∧ 0 ≤ c)) ∧ chk (a + b) = (c, 0) := by
    have h := w64 (a + b)
    rw [hc] at h
    unfold InI at ha hb
    by_cases g : InI (a + b)
    · right
      rw [chk_in g]
      unfold InI at g
      have e : c = a + b := by omega
      rw [e]
      exact ⟨by omega, rfl⟩
    · left
      rw [chk_out g]
      unfold InI at g
      exact ⟨by omega, rfl⟩
  clear ha hb
  rcases sgn a with ⟨x1, x2, x3⟩ | ⟨x1, x2, x3⟩ <;> rcases sgn b with ⟨y1, y2, y3⟩ | ⟨y1, y2, y3⟩ <;> rcases sgn c with ⟨z1, z2, z3⟩ | ⟨z1, z2, z3⟩ <;> rcases hv with ⟨v1, v2⟩ | ⟨v1, v2⟩
  all_goals
    first
      | (exfalso; omega)
      | (rw [v2]
         clear v1 v2 x1 y1 z1
         go_enter Try.func26, Try.ntmps26
         go_wp2
         go_ret2
         first | exact ⟨rfl, rfl⟩ | exact ⟨ret_i2 hc rfl, rfl⟩)

set_option maxHeartbeats 4000000 in
set_option maxRecDepth 100000 in
theorem refwhole_8 (a b : Int) (ha : InI a) (hb : InI b) (w : World) :
    Calls Try.prog 26 #[.int .i64 8, .int .i64 a, .int .i64 b] w fun e w' => e = .returned (.tuple #[.int .i64 (wholeV 8 a b).1, .int .i64 (wholeV 8 a b).2]) ∧ w = w' := by
  rw [show wholeV 8 a b = chk (a - b) by simp [wholeV]]
  obtain ⟨c, hc⟩ : ∃ c, wrap64 (a - b) = c := ⟨_, rfl⟩
  have hv : ((0 ≤ a ∧ b < 0 ∧ c < 0) ∨ (a < 0 ∧ 0 ≤ b ∧ 0 ≤ c)) ∧ chk (a - b) = (0, 31) ∨ ¬ ((0 ≤ a ∧ b < 0 ∧ c < 0) ∨ (a < 0 ∧ 0 ≤ b ∧ 0 ≤ c)) ∧ chk (a - b) = (c, 0) := by
    have h := w64 (a - b)
    rw [hc] at h
    unfold InI at ha hb
    by_cases g : InI (a - b)
    · right
      rw [chk_in g]
      unfold InI at g
      have e : c = a - b := by omega
      rw [e]
      exact ⟨by omega, rfl⟩
    · left
      rw [chk_out g]
      unfold InI at g
      exact ⟨by omega, rfl⟩
  clear ha hb
  rcases sgn a with ⟨x1, x2, x3⟩ | ⟨x1, x2, x3⟩ <;> rcases sgn b with ⟨y1, y2, y3⟩ | ⟨y1, y2, y3⟩ <;> rcases sgn c with ⟨z1, z2, z3⟩ | ⟨z1, z2, z3⟩ <;> rcases hv with ⟨v1, v2⟩ | ⟨v1, v2⟩
  all_goals
    first
      | (exfalso; omega)
      | (rw [v2]
         clear v1 v2 x1 y1 z1
         go_enter Try.func26, Try.ntmps26
         go_wp2
         go_ret2
         first | exact ⟨rfl, rfl⟩ | exact ⟨ret_i2 hc rfl, rfl⟩)

set_option maxRecDepth 100000 in
theorem refwhole_9 (a b : Int) (ha : InI a) (hb : InI b) (w : World) :
    Calls Try.prog 26 #[.int .i64 9, .int .i64 a, .int .i64 b] w fun e w' => e = .returned (.tuple #[.int .i64 (wholeV 9 a b).1, .int .i64 (wholeV 9 a b).2]) ∧ w = w' := by
  rw [show wholeV 9 a b = chk (a * b) by simp [wholeV]]
  have HM := Lib.hid (rmul_any a b ha hb)
  clear ha hb
  go_enter Try.func26, Try.ntmps26
  go_wp2_with fail
  refine (HM.out _).mono ?_
  rintro e w' ⟨⟨x, f, rfl, h⟩, rfl⟩
  rcases h with ⟨rfl, rfl, h⟩ | ⟨rfl, h⟩
  · have HC := Lib.hid (chk_in h)
    clear h
    go_wp2
    go_ret2
    exact ⟨by rw [HC.out]; rfl, rfl⟩
  · have HC := Lib.hid (chk_out h)
    clear h
    go_wp2
    go_ret2
    exact ⟨by rw [HC.out]; rfl, rfl⟩

set_option maxRecDepth 100000 in
theorem refwhole_13 (a b : Int) (ha : InI a) (w : World) :
    Calls Try.prog 26 #[.int .i64 13, .int .i64 a, .int .i64 b] w fun e w' => e = .returned (.tuple #[.int .i64 (wholeV 13 a b).1, .int .i64 (wholeV 13 a b).2]) ∧ w = w' := by
  rw [show wholeV 13 a b = chk (0 - a) by simp [wholeV]]
  rw [Int.zero_sub]
  unfold InI at ha
  by_cases h0 : a = 0
  · subst h0
    rw [show chk (-0) = (0, 0) by rfl]
    go_enter Try.func26, Try.ntmps26
    go_wp2
    go_ret2
    exact ⟨rfl, rfl⟩
  · have e0 : (a == 0) = false := by simpa using h0
    by_cases h1 : a = -9223372036854775808
    · subst h1
      rw [show chk (- -9223372036854775808) = (0, 31) by rfl]
      have e : wrap64 9223372036854775808 = -9223372036854775808 := by rw [w64]; rfl
      go_enter Try.func26, Try.ntmps26
      go_wp2
      go_ret2
      exact ⟨rfl, rfl⟩
    · have g : InI (-a) := by unfold InI; omega
      rw [chk_in g]
      obtain ⟨g1, g2⟩ := g
      have e1 : (-a != a) = true := by simp; omega
      clear h0 h1
      go_enter Try.func26, Try.ntmps26
      go_wp2
      go_ret2
      exact ⟨rfl, rfl⟩

theorem tdiv_m1 (a : Int) : a.tdiv (-1) = -a := by rw [Int.tdiv_neg, Int.tdiv_one]

set_option maxRecDepth 100000 in
theorem refwhole_10 (a b : Int) (ha : InI a) (hb : InI b) (w : World) :
    Calls Try.prog 26 #[.int .i64 10, .int .i64 a, .int .i64 b] w fun e w' => e = .returned (.tuple #[.int .i64 (wholeV 10 a b).1, .int .i64 (wholeV 10 a b).2]) ∧ w = w' := by
  rw [show wholeV 10 a b = divV a b by simp [wholeV]]
  by_cases h0 : b = 0
  · subst h0
    rw [show divV a 0 = (0, 32) from rfl]
    go_enter Try.func26, Try.ntmps26
    go_wp2
    go_ret2
    exact ⟨rfl, rfl⟩
  · have e0 : (b == 0) = false := by simpa using h0
    rw [show divV a b = chk (a.tdiv b) by unfold divV; exact if_neg h0]
    by_cases h1 : b = -1
    · subst h1
      have h := refwhole_13 a 0 ha
      rw [show wholeV 13 a 0 = chk (a.tdiv (-1)) by rw [tdiv_m1]; simp [wholeV]] at h
      generalize chk (a.tdiv (-1)) = r at *
      obtain ⟨r1, r2⟩ := r
      have H := Lib.hid h
      clear h ha hb
      go_enter Try.func26, Try.ntmps26
      go_wp2_with (go_at_call 26; refine (H.out _).mono ?_; rintro e w' ⟨rfl, rfl⟩)
      go_ret2
      exact ⟨rfl, rfl⟩
    · have e1 : (b == -1) = false := by simpa using h1
      have hd := div_in ha h0 (fun g => h1 g.1)
      rw [chk_in hd]
      obtain ⟨q, hq⟩ : ∃ q, a.tdiv b = q := ⟨_, rfl⟩
      have hw : wrap64 (a.tdiv b) = q := by rw [w64_in hd, hq]
      have HQ := Lib.hid hq
      clear ha hb hd hq h1
      go_enter Try.func26, Try.ntmps26
      go_wp2_with fail
      go_ret2
      exact ⟨ret_i2 (by first | exact HQ.out.symm | exact hw.trans HQ.out.symm) rfl, rfl⟩

set_option maxRecDepth 100000 in
theorem refwhole_11 (a b : Int) (ha : InI a) (hb : InI b) (w : World) :
    Calls Try.prog 26 #[.int .i64 11, .int .i64 a, .int .i64 b] w fun e w' => e = .returned (.tuple #[.int .i64 (wholeV 11 a b).1, .int .i64 (wholeV 11 a b).2]) ∧ w = w' := by
  rw [show wholeV 11 a b = modV a b by simp [wholeV]]
  by_cases h0 : b = 0
  · subst h0
    rw [show modV a 0 = (0, 32) from rfl]
    go_enter Try.func26, Try.ntmps26
    go_wp2
    go_ret2
    exact ⟨rfl, rfl⟩
  · have e0 : (b == 0) = false := by simpa using h0
    rw [show modV a b = (a.tmod b, 0) by unfold modV; exact if_neg h0]
    by_cases h1 : b = -1
    · subst h1
      rw [mod_neg1]
      clear ha hb
      go_enter Try.func26, Try.ntmps26
      go_wp2_with fail
      go_ret2
      exact ⟨rfl, rfl⟩
    · have e1 : (b == -1) = false := by simpa using h1
      have hd := div_in ha h0 (fun g => h1 g.1)
      obtain ⟨m1, m2⟩ := tmod_in (b := b) ha h0
      obtain ⟨q, hq⟩ : ∃ q, a.tdiv b = q := ⟨_, rfl⟩
      have hw : wrap64 (a.tdiv b) = q := by rw [w64_in hd, hq]
      obtain ⟨p, hp⟩ : ∃ p, wrap64 (q * b) = p := ⟨_, rfl⟩
      have hr : wrap64 (a - p) = a.tmod b := by
        rw [hq] at m2
        have e : wrap64 (a - p) = wrap64 (a.tmod b) := by
          rw [m2, ← hp, w64, w64, w64]
          generalize q * b = z
          omega
        rw [e, w64_in m1]
      have HR := Lib.hid hr
      clear ha hb hd hq h1 m1 m2 hr
      go_enter Try.func26, Try.ntmps26
      go_wp2_with fail
      go_ret2
      exact ⟨ret_i2 HR.out rfl, rfl⟩

theorem refwhole_any (op a b : Int) (ho : OpsI op) (ha : InI a) (hb : InI b) (w : World) :
    Calls Try.prog 26 #[.int .i64 op, .int .i64 a, .int .i64 b] w fun e w' => e = .returned (.tuple #[.int .i64 (wholeV op a b).1, .int .i64 (wholeV op a b).2]) ∧ w = w' := by
  rcases ho with rfl | rfl | rfl | rfl | rfl | rfl
  · exact refwhole_7 a b ha hb w
  · exact refwhole_8 a b ha hb w
  · exact refwhole_9 a b ha hb w
  · exact refwhole_10 a b ha hb w
  · exact refwhole_11 a b ha hb w
  · exact refwhole_13 a b ha w

theorem refpoint_any (op a b : Int) (ho : OpsR op) (w : World) :
    Calls Try.prog 27 #[.int .i64 op, .int .i64 a, .int .i64 b] w fun e w' => e = .returned (.int .i64 (pointV op a b)) ∧ ∃ n, w' = w.drewN n := by
  rcases ho with rfl | rfl | rfl | rfl | rfl
  · rw [show pointV 7 a b = ROf (Ieee.double.add (ub a) (ub b)) by simp [pointV]]
    have h := fun w => refadd_any a b w
    skip
    generalize ROf (Ieee.double.add (ub a) (ub b)) = r at *
    have H := Lib.hid h
    clear h
    go_enter Try.func27, Try.ntmps27
    go_wp2_with fail
    refine (H.out _).mono ?_
    rintro e w' ⟨rfl, n1, rfl⟩
    go_wp2
    go_ret
    exact ⟨rfl, n1, rfl⟩
  · rw [show pointV 8 a b = ROf (Ieee.double.sub (ub a) (ub b)) by simp [pointV]]
    have h := fun w => refsub_any a b w
    skip
    generalize ROf (Ieee.double.sub (ub a) (ub b)) = r at *
    have H := Lib.hid h
    clear h
    go_enter Try.func27, Try.ntmps27
    go_wp2_with fail
    refine (H.out _).mono ?_
    rintro e w' ⟨rfl, n1, rfl⟩
    go_wp2
    go_ret
    exact ⟨rfl, n1, rfl⟩
  · rw [show pointV 9 a b = ROf (Ieee.double.mul (ub a) (ub b)) by simp [pointV]]
    have h := fun w => refmul_any a b w
    skip
    generalize ROf (Ieee.double.mul (ub a) (ub b)) = r at *
    have H := Lib.hid h
    clear h
    go_enter Try.func27, Try.ntmps27
    go_wp2_with fail
    refine (H.out _).mono ?_
    rintro e w' ⟨rfl, n1, rfl⟩
    go_wp2
    go_ret
    exact ⟨rfl, n1, rfl⟩
  · rw [show pointV 10 a b = ROf (Ieee.double.div (ub a) (ub b)) by simp [pointV]]
    have h := fun w => refdiv_any a b w
    skip
    generalize ROf (Ieee.double.div (ub a) (ub b)) = r at *
    have H := Lib.hid h
    clear h
    go_enter Try.func27, Try.ntmps27
    go_wp2_with fail
    refine (H.out _).mono ?_
    rintro e w' ⟨rfl, n1, rfl⟩
    go_wp2
    go_ret
    exact ⟨rfl, n1, rfl⟩
  · rw [show pointV 13 a b = RNeg a by simp [pointV]]
    have h := fun w => refneg_any a w
    simp only [← neg_eq] at h
    generalize RNeg a = r at *
    have H := Lib.hid h
    clear h
    go_enter Try.func27, Try.ntmps27
    go_wp2_with fail
    refine (H.out _).mono ?_
    rintro e w' ⟨rfl, rfl⟩
    go_wp2
    go_ret
    exact ⟨rfl, 0, rfl⟩

end Go.Proofs.Ytceingfjdkpolaa
