/-
  Contracts of the package real (layer 1) over its translation: what it reckons.
  Conditions: none.
-/
import Derived.Test.YtceingfjdkpolaaReal
namespace Go.Proofs.Ytceingfjdkpolaa
open Go.RowKit

theorem add_any (a b : Int) (w : World) :
    Calls Try.prog 44 #[.int .i64 a, .int .i64 b] w fun e w' => e = .returned (.int .i64 (ROf (Ieee.double.add (ub a) (ub b)))) ∧ ∃ n, w' = w.drewN n := by
  rcases h : Ieee.double.add (ub a) (ub b) with _ | r
  · obtain ⟨nb, hn, h1⟩ := run_float_nan (P := Try.prog) .add (by simp) 68 (ub a) (ub b) (by unfold floatBits; exact h) w
    clear h
    have hz := Lib.hid (RBits_nan hn)
    clear hn
    go_enter Try.func44, Try.ntmps44
    go_wp2_with (first | (go_at_call 56; refine (float_any _ _).mono ?_; rintro e w' ⟨rfl, rfl⟩) | (go_at_call 58; refine (bits_any _ _).mono ?_; rintro e w' ⟨rfl, rfl⟩))
    go_ret
    exact ⟨by rw [hz.out]; rfl, 1, rfl⟩
  · have h1 : ∀ w, (binOp .add 68 (.float .f64 (ub a)) (.float .f64 (ub b))).run Try.prog w = .ok (.float .f64 r) w := fun w => run_float_arith w .add _ _ _ _ _ (by unfold floatBits; exact h)
    clear h
    go_enter Try.func44, Try.ntmps44
    go_wp2_with (first | (go_at_call 56; refine (float_any _ _).mono ?_; rintro e w' ⟨rfl, rfl⟩) | (go_at_call 58; refine (bits_any _ _).mono ?_; rintro e w' ⟨rfl, rfl⟩))
    go_ret
    exact ⟨rfl, 0, rfl⟩

theorem sub_any (a b : Int) (w : World) :
    Calls Try.prog 45 #[.int .i64 a, .int .i64 b] w fun e w' => e = .returned (.int .i64 (ROf (Ieee.double.sub (ub a) (ub b)))) ∧ ∃ n, w' = w.drewN n := by
  rcases h : Ieee.double.sub (ub a) (ub b) with _ | r
  · obtain ⟨nb, hn, h1⟩ := run_float_nan (P := Try.prog) .sub (by simp) 68 (ub a) (ub b) (by unfold floatBits; exact h) w
    clear h
    have hz := Lib.hid (RBits_nan hn)
    clear hn
    go_enter Try.func45, Try.ntmps45
    go_wp2_with (first | (go_at_call 56; refine (float_any _ _).mono ?_; rintro e w' ⟨rfl, rfl⟩) | (go_at_call 58; refine (bits_any _ _).mono ?_; rintro e w' ⟨rfl, rfl⟩))
    go_ret
    exact ⟨by rw [hz.out]; rfl, 1, rfl⟩
  · have h1 : ∀ w, (binOp .sub 68 (.float .f64 (ub a)) (.float .f64 (ub b))).run Try.prog w = .ok (.float .f64 r) w := fun w => run_float_arith w .sub _ _ _ _ _ (by unfold floatBits; exact h)
    clear h
    go_enter Try.func45, Try.ntmps45
    go_wp2_with (first | (go_at_call 56; refine (float_any _ _).mono ?_; rintro e w' ⟨rfl, rfl⟩) | (go_at_call 58; refine (bits_any _ _).mono ?_; rintro e w' ⟨rfl, rfl⟩))
    go_ret
    exact ⟨rfl, 0, rfl⟩

theorem mul_any (a b : Int) (w : World) :
    Calls Try.prog 46 #[.int .i64 a, .int .i64 b] w fun e w' => e = .returned (.int .i64 (ROf (Ieee.double.mul (ub a) (ub b)))) ∧ ∃ n, w' = w.drewN n := by
  rcases h : Ieee.double.mul (ub a) (ub b) with _ | r
  · obtain ⟨nb, hn, h1⟩ := run_float_nan (P := Try.prog) .mul (by simp) 68 (ub a) (ub b) (by unfold floatBits; exact h) w
    clear h
    have hz := Lib.hid (RBits_nan hn)
    clear hn
    go_enter Try.func46, Try.ntmps46
    go_wp2_with (first | (go_at_call 56; refine (float_any _ _).mono ?_; rintro e w' ⟨rfl, rfl⟩) | (go_at_call 58; refine (bits_any _ _).mono ?_; rintro e w' ⟨rfl, rfl⟩))
    go_ret
    exact ⟨by rw [hz.out]; rfl, 1, rfl⟩
  · have h1 : ∀ w, (binOp .mul 68 (.float .f64 (ub a)) (.float .f64 (ub b))).run Try.prog w = .ok (.float .f64 r) w := fun w => run_float_arith w .mul _ _ _ _ _ (by unfold floatBits; exact h)
    clear h
    go_enter Try.func46, Try.ntmps46
    go_wp2_with (first | (go_at_call 56; refine (float_any _ _).mono ?_; rintro e w' ⟨rfl, rfl⟩) | (go_at_call 58; refine (bits_any _ _).mono ?_; rintro e w' ⟨rfl, rfl⟩))
    go_ret
    exact ⟨rfl, 0, rfl⟩

theorem div_any (a b : Int) (w : World) :
    Calls Try.prog 47 #[.int .i64 a, .int .i64 b] w fun e w' => e = .returned (.int .i64 (ROf (Ieee.double.div (ub a) (ub b)))) ∧ ∃ n, w' = w.drewN n := by
  rcases h : Ieee.double.div (ub a) (ub b) with _ | r
  · obtain ⟨nb, hn, h1⟩ := run_float_nan (P := Try.prog) .quo (by simp) 68 (ub a) (ub b) (by unfold floatBits; exact h) w
    clear h
    have hz := Lib.hid (RBits_nan hn)
    clear hn
    go_enter Try.func47, Try.ntmps47
    go_wp2_with (first | (go_at_call 56; refine (float_any _ _).mono ?_; rintro e w' ⟨rfl, rfl⟩) | (go_at_call 58; refine (bits_any _ _).mono ?_; rintro e w' ⟨rfl, rfl⟩))
    go_ret
    exact ⟨by rw [hz.out]; rfl, 1, rfl⟩
  · have h1 : ∀ w, (binOp .quo 68 (.float .f64 (ub a)) (.float .f64 (ub b))).run Try.prog w = .ok (.float .f64 r) w := fun w => run_float_arith w .quo _ _ _ _ _ (by unfold floatBits; exact h)
    clear h
    go_enter Try.func47, Try.ntmps47
    go_wp2_with (first | (go_at_call 56; refine (float_any _ _).mono ?_; rintro e w' ⟨rfl, rfl⟩) | (go_at_call 58; refine (bits_any _ _).mono ?_; rintro e w' ⟨rfl, rfl⟩))
    go_ret
    exact ⟨rfl, 0, rfl⟩

theorem neg_any (a : Int) (w : World) :
    Calls Try.prog 48 #[.int .i64 a] w fun e w' => e = .returned (.int .i64 (RNeg a)) ∧ w = w' := by
  have h1 : ∀ w, (Op.unary .neg (.float .f64 (ub a))).run Try.prog w = .ok (.float .f64 (Op.negFloat .f64 (ub a))) w := fun _ => rfl
  go_enter Try.func48, Try.ntmps48
  go_wp2_with (first | (go_at_call 56; refine (float_any _ _).mono ?_; rintro e w' ⟨rfl, rfl⟩) | (go_at_call 58; refine (bits_any _ _).mono ?_; rintro e w' ⟨rfl, rfl⟩))
  go_ret
  exact ⟨rfl, rfl⟩

theorem ofint_any (n : Int) (w : World) :
    Calls Try.prog 43 #[.int .i64 n] w fun e w' => e = .returned (.int .i64 (ROfInt n)) ∧ w = w' := by
  go_enter Try.func43, Try.ntmps43
  go_wp2_with (first | (go_at_call 56; refine (float_any _ _).mono ?_; rintro e w' ⟨rfl, rfl⟩) | (go_at_call 58; refine (bits_any _ _).mono ?_; rintro e w' ⟨rfl, rfl⟩))
  go_ret
  exact ⟨rfl, rfl⟩

theorem toint_bad (a : Int) (h : tbad (ub a) = true) (w : World) :
    Calls Try.prog 42 #[.int .i64 a] w fun e w' => e = .returned (.tuple #[.int .i64 0, .int .i64 10]) ∧ w = w' := by
  have e1 : FloatKind.f64.format = Ieee.double := rfl
  unfold tbad at h
  rcases h1 : rnan (ub a) with _ | _ <;> rcases h2 : (Ieee.double.order (ub a) 14114281232179134464 == some .lt) with _ | _ <;> rcases h3 : (Ieee.double.order (ub a) 4890909195324358656 == some .gt || Ieee.double.order (ub a) 4890909195324358656 == some .eq) with _ | _ <;> rw [h1, h2, h3] at h <;> first | (exact absurd h (by decide)) | skip
  all_goals
    clear h
    go_enter Try.func42, Try.ntmps42
    go_wp2_with (first | (go_at_call 56; refine (float_any _ _).mono ?_; rintro e w' ⟨rfl, rfl⟩) | (go_at_call 57; refine (isnan_any _ _).mono ?_; rintro e w' ⟨rfl, rfl⟩))
    go_ret2
    exact ⟨rfl, rfl⟩

theorem toint_good (a n : Int) (h : tbad (ub a) = false) (hn : floatToIntVal .f64 (ub a) .i64 = some n) (w : World) :
    Calls Try.prog 42 #[.int .i64 a] w fun e w' => e = .returned (.tuple #[.int .i64 n, .int .i64 0]) ∧ w = w' := by
  have e1 : FloatKind.f64.format = Ieee.double := rfl
  have h4 : ∀ w, (convert 68 2 (.float .f64 (ub a))).run Try.prog w = .ok (.int .i64 n) w := fun w => run_convert_float_int w _ _ _ _ _ _ (by rw [Try.underlying68]; rfl) Try.underlying2 hn
  clear hn
  unfold tbad at h
  rcases h1 : rnan (ub a) with _ | _ <;> rcases h2 : (Ieee.double.order (ub a) 14114281232179134464 == some .lt) with _ | _ <;> rcases h3 : (Ieee.double.order (ub a) 4890909195324358656 == some .gt || Ieee.double.order (ub a) 4890909195324358656 == some .eq) with _ | _ <;> rw [h1, h2, h3] at h <;> first | (exact absurd h (by decide)) | skip
  clear h
  go_enter Try.func42, Try.ntmps42
  go_wp2_with (first | (go_at_call 56; refine (float_any _ _).mono ?_; rintro e w' ⟨rfl, rfl⟩) | (go_at_call 57; refine (isnan_any _ _).mono ?_; rintro e w' ⟨rfl, rfl⟩))
  go_ret2
  exact ⟨rfl, rfl⟩

end Go.Proofs.Ytceingfjdkpolaa
