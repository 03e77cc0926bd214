/-
  Contracts of the document's answers for layer 1 (haspref01) over their translation: what they reckon.
  Conditions: none.
-/
import Derived.Test.YtceingfjdkpolaaRef1
import Derived.Test.YtceingfjdkpolaaReal2
namespace Go.Proofs.Ytceingfjdkpolaa
open Go.RowKit

theorem refcanon_any (a : Int) (w : World) :
    Calls Try.prog 60 #[.int .i64 a] w fun e w' => e = .returned (.int .i64 (PCanon a)) ∧ w = w' := by
  unfold PCanon
  rcases h : rnan (ub a) with _ | _
  all_goals
    go_enter Try.func60, Try.ntmps60
    go_wp2_with (go_at_call 18; refine (refnan_any _ _).mono ?_; rintro e w' ⟨rfl, rfl⟩)
    go_ret
    exact ⟨rfl, rfl⟩

theorem of_any (a : Int) (w : World) :
    Calls Try.prog 54 #[.int .i64 a] w fun e w' => e = .returned (.float .f64 (ub a)) ∧ w = w' := by
  have h1 := run_frombits (IntKind.u64.wrap a)
  go_enter Try.func54, Try.ntmps54
  go_wp2
  go_ret
  exact ⟨rfl, rfl⟩

theorem refbits_any (b : Nat) (h : b < 18446744073709551616) (w : World) :
    Calls Try.prog 55 #[.float .f64 b] w fun e w' => e = .returned (.int .i64 (RBits b)) ∧ w = w' := by
  have h1 := run_tobits b
  have hc : ∀ w, Calls Try.prog 60 #[.int .i64 (wrap64 (b : Int))] w fun e w' => e = .returned (.int .i64 (RBits b)) ∧ w = w' := by
    intro w
    refine (refcanon_any (wrap64 (b : Int)) w).mono ?_
    rintro e w' ⟨rfl, rfl⟩
    refine ⟨ret_i ?_, rfl⟩
    unfold PCanon RBits
    rw [ub_wrap b h]
  generalize RBits b = r at *
  have HC := Lib.hid hc
  clear hc
  go_enter Try.func55, Try.ntmps55
  go_wp2_with (go_at_call 60; refine (HC.out _).mono ?_; rintro e w' ⟨rfl, rfl⟩)
  go_ret
  exact ⟨rfl, rfl⟩

theorem refadd_any (a b : Int) (w : World) :
    Calls Try.prog 37 #[.int .i64 a, .int .i64 b] w fun e w' => e = .returned (.int .i64 (ROf (Ieee.double.add (ub a) (ub b)))) ∧ ∃ n, w' = w.drewN n := by
  rcases h : Ieee.double.add (ub a) (ub b) with _ | r
  · obtain ⟨nb, hn, hlt, h1⟩ := run_float_nan_lt (P := Try.prog) .add (by simp) 68 (ub a) (ub b) (by unfold floatBits; exact h) w
    clear h
    have hz := Lib.hid (RBits_nan hn)
    clear hn
    go_enter Try.func37, Try.ntmps37
    go_wp2_with (first | (go_at_call 54; refine (of_any _ _).mono ?_; rintro e w' ⟨rfl, rfl⟩) | (go_at_call 55; refine (refbits_any _ hlt _).mono ?_; rintro e w' ⟨rfl, rfl⟩))
    go_ret
    exact ⟨by rw [hz.out]; rfl, 1, rfl⟩
  · have h1 : ∀ w, (binOp .add 68 (.float .f64 (ub a)) (.float .f64 (ub b))).run Try.prog w = .ok (.float .f64 r) w := fun w => run_float_arith w .add _ _ _ _ _ (by unfold floatBits; exact h)
    have hlt : r < 18446744073709551616 := Ieee.double.add_lt h
    clear h
    go_enter Try.func37, Try.ntmps37
    go_wp2_with (first | (go_at_call 54; refine (of_any _ _).mono ?_; rintro e w' ⟨rfl, rfl⟩) | (go_at_call 55; refine (refbits_any _ hlt _).mono ?_; rintro e w' ⟨rfl, rfl⟩))
    go_ret
    exact ⟨rfl, 0, rfl⟩

theorem refsub_any (a b : Int) (w : World) :
    Calls Try.prog 38 #[.int .i64 a, .int .i64 b] w fun e w' => e = .returned (.int .i64 (ROf (Ieee.double.sub (ub a) (ub b)))) ∧ ∃ n, w' = w.drewN n := by
  rcases h : Ieee.double.sub (ub a) (ub b) with _ | r
  · obtain ⟨nb, hn, hlt, h1⟩ := run_float_nan_lt (P := Try.prog) .sub (by simp) 68 (ub a) (ub b) (by unfold floatBits; exact h) w
    clear h
    have hz := Lib.hid (RBits_nan hn)
    clear hn
    go_enter Try.func38, Try.ntmps38
    go_wp2_with (first | (go_at_call 54; refine (of_any _ _).mono ?_; rintro e w' ⟨rfl, rfl⟩) | (go_at_call 55; refine (refbits_any _ hlt _).mono ?_; rintro e w' ⟨rfl, rfl⟩))
    go_ret
    exact ⟨by rw [hz.out]; rfl, 1, rfl⟩
  · have h1 : ∀ w, (binOp .sub 68 (.float .f64 (ub a)) (.float .f64 (ub b))).run Try.prog w = .ok (.float .f64 r) w := fun w => run_float_arith w .sub _ _ _ _ _ (by unfold floatBits; exact h)
    have hlt : r < 18446744073709551616 := Ieee.double.sub_lt h
    clear h
    go_enter Try.func38, Try.ntmps38
    go_wp2_with (first | (go_at_call 54; refine (of_any _ _).mono ?_; rintro e w' ⟨rfl, rfl⟩) | (go_at_call 55; refine (refbits_any _ hlt _).mono ?_; rintro e w' ⟨rfl, rfl⟩))
    go_ret
    exact ⟨rfl, 0, rfl⟩

theorem refmul_any (a b : Int) (w : World) :
    Calls Try.prog 39 #[.int .i64 a, .int .i64 b] w fun e w' => e = .returned (.int .i64 (ROf (Ieee.double.mul (ub a) (ub b)))) ∧ ∃ n, w' = w.drewN n := by
  rcases h : Ieee.double.mul (ub a) (ub b) with _ | r
  · obtain ⟨nb, hn, hlt, h1⟩ := run_float_nan_lt (P := Try.prog) .mul (by simp) 68 (ub a) (ub b) (by unfold floatBits; exact h) w
    clear h
    have hz := Lib.hid (RBits_nan hn)
    clear hn
    go_enter Try.func39, Try.ntmps39
    go_wp2_with (first | (go_at_call 54; refine (of_any _ _).mono ?_; rintro e w' ⟨rfl, rfl⟩) | (go_at_call 55; refine (refbits_any _ hlt _).mono ?_; rintro e w' ⟨rfl, rfl⟩))
    go_ret
    exact ⟨by rw [hz.out]; rfl, 1, rfl⟩
  · have h1 : ∀ w, (binOp .mul 68 (.float .f64 (ub a)) (.float .f64 (ub b))).run Try.prog w = .ok (.float .f64 r) w := fun w => run_float_arith w .mul _ _ _ _ _ (by unfold floatBits; exact h)
    have hlt : r < 18446744073709551616 := Ieee.double.mul_lt h
    clear h
    go_enter Try.func39, Try.ntmps39
    go_wp2_with (first | (go_at_call 54; refine (of_any _ _).mono ?_; rintro e w' ⟨rfl, rfl⟩) | (go_at_call 55; refine (refbits_any _ hlt _).mono ?_; rintro e w' ⟨rfl, rfl⟩))
    go_ret
    exact ⟨rfl, 0, rfl⟩

theorem refdiv_any (a b : Int) (w : World) :
    Calls Try.prog 40 #[.int .i64 a, .int .i64 b] w fun e w' => e = .returned (.int .i64 (ROf (Ieee.double.div (ub a) (ub b)))) ∧ ∃ n, w' = w.drewN n := by
  rcases h : Ieee.double.div (ub a) (ub b) with _ | r
  · obtain ⟨nb, hn, hlt, h1⟩ := run_float_nan_lt (P := Try.prog) .quo (by simp) 68 (ub a) (ub b) (by unfold floatBits; exact h) w
    clear h
    have hz := Lib.hid (RBits_nan hn)
    clear hn
    go_enter Try.func40, Try.ntmps40
    go_wp2_with (first | (go_at_call 54; refine (of_any _ _).mono ?_; rintro e w' ⟨rfl, rfl⟩) | (go_at_call 55; refine (refbits_any _ hlt _).mono ?_; rintro e w' ⟨rfl, rfl⟩))
    go_ret
    exact ⟨by rw [hz.out]; rfl, 1, rfl⟩
  · have h1 : ∀ w, (binOp .quo 68 (.float .f64 (ub a)) (.float .f64 (ub b))).run Try.prog w = .ok (.float .f64 r) w := fun w => run_float_arith w .quo _ _ _ _ _ (by unfold floatBits; exact h)
    have hlt : r < 18446744073709551616 := Ieee.double.div_lt h
    clear h
    go_enter Try.func40, Try.ntmps40
    go_wp2_with (first | (go_at_call 54; refine (of_any _ _).mono ?_; rintro e w' ⟨rfl, rfl⟩) | (go_at_call 55; refine (refbits_any _ hlt _).mono ?_; rintro e w' ⟨rfl, rfl⟩))
    go_ret
    exact ⟨rfl, 0, rfl⟩

theorem refneg_any (a : Int) (w : World) :
    Calls Try.prog 41 #[.int .i64 a] w fun e w' => e = .returned (.int .i64 (PNeg a)) ∧ w = w' := by
  unfold PNeg
  rcases h : rnan (ub a) with _ | _
  all_goals
    go_enter Try.func41, Try.ntmps41
    go_wp2_with (go_at_call 18; refine (refnan_any _ _).mono ?_; rintro e w' ⟨rfl, rfl⟩)
    go_ret
    exact ⟨rfl, rfl⟩

end Go.Proofs.Ytceingfjdkpolaa
