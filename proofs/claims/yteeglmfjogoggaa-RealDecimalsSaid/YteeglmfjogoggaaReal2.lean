/-
  Contracts of the package real (layer 1) over its translation: what it reckons.
  Conditions: none.
-/
import Derived.Test.YteeglmfjogoggaaReal
namespace Go.Proofs.Yteeglmfjogoggaa
open Go.RowKit

theorem add_any (a b : Int) (w : World) :
    Calls Try.prog 16 #[.int .i64 a, .int .i64 b] w fun e w' => e = .returned (.int .i64 (ROf (Ieee.double.add (ub a) (ub b)))) ∧ ∃ n, w' = w.drewN n := by
  rcases h : Ieee.double.add (ub a) (ub b) with _ | r
  · obtain ⟨nb, hn, h1⟩ := run_float_nan (P := Try.prog) .add (by simp) 37 (ub a) (ub b) (by unfold floatBits; exact h) w
    clear h
    have hz := Lib.hid (RBits_nan hn)
    clear hn
    go_enter Try.func16, Try.ntmps16
    go_wp2_with (first | (go_at_call 33; refine (float_any _ _).mono ?_; rintro e w' ⟨rfl, rfl⟩) | (go_at_call 37; refine (bits_any _ _).mono ?_; rintro e w' ⟨rfl, rfl⟩))
    go_ret
    exact ⟨by rw [hz.out]; rfl, 1, rfl⟩
  · have h1 : ∀ w, (binOp .add 37 (.float .f64 (ub a)) (.float .f64 (ub b))).run Try.prog w = .ok (.float .f64 r) w := fun w => run_float_arith w .add _ _ _ _ _ (by unfold floatBits; exact h)
    clear h
    go_enter Try.func16, Try.ntmps16
    go_wp2_with (first | (go_at_call 33; refine (float_any _ _).mono ?_; rintro e w' ⟨rfl, rfl⟩) | (go_at_call 37; refine (bits_any _ _).mono ?_; rintro e w' ⟨rfl, rfl⟩))
    go_ret
    exact ⟨rfl, 0, rfl⟩

theorem sub_any (a b : Int) (w : World) :
    Calls Try.prog 18 #[.int .i64 a, .int .i64 b] w fun e w' => e = .returned (.int .i64 (ROf (Ieee.double.sub (ub a) (ub b)))) ∧ ∃ n, w' = w.drewN n := by
  rcases h : Ieee.double.sub (ub a) (ub b) with _ | r
  · obtain ⟨nb, hn, h1⟩ := run_float_nan (P := Try.prog) .sub (by simp) 37 (ub a) (ub b) (by unfold floatBits; exact h) w
    clear h
    have hz := Lib.hid (RBits_nan hn)
    clear hn
    go_enter Try.func18, Try.ntmps18
    go_wp2_with (first | (go_at_call 33; refine (float_any _ _).mono ?_; rintro e w' ⟨rfl, rfl⟩) | (go_at_call 37; refine (bits_any _ _).mono ?_; rintro e w' ⟨rfl, rfl⟩))
    go_ret
    exact ⟨by rw [hz.out]; rfl, 1, rfl⟩
  · have h1 : ∀ w, (binOp .sub 37 (.float .f64 (ub a)) (.float .f64 (ub b))).run Try.prog w = .ok (.float .f64 r) w := fun w => run_float_arith w .sub _ _ _ _ _ (by unfold floatBits; exact h)
    clear h
    go_enter Try.func18, Try.ntmps18
    go_wp2_with (first | (go_at_call 33; refine (float_any _ _).mono ?_; rintro e w' ⟨rfl, rfl⟩) | (go_at_call 37; refine (bits_any _ _).mono ?_; rintro e w' ⟨rfl, rfl⟩))
    go_ret
    exact ⟨rfl, 0, rfl⟩

theorem mul_any (a b : Int) (w : World) :
    Calls Try.prog 20 #[.int .i64 a, .int .i64 b] w fun e w' => e = .returned (.int .i64 (ROf (Ieee.double.mul (ub a) (ub b)))) ∧ ∃ n, w' = w.drewN n := by
  rcases h : Ieee.double.mul (ub a) (ub b) with _ | r
  · obtain ⟨nb, hn, h1⟩ := run_float_nan (P := Try.prog) .mul (by simp) 37 (ub a) (ub b) (by unfold floatBits; exact h) w
    clear h
    have hz := Lib.hid (RBits_nan hn)
    clear hn
    go_enter Try.func20, Try.ntmps20
    go_wp2_with (first | (go_at_call 33; refine (float_any _ _).mono ?_; rintro e w' ⟨rfl, rfl⟩) | (go_at_call 37; refine (bits_any _ _).mono ?_; rintro e w' ⟨rfl, rfl⟩))
    go_ret
    exact ⟨by rw [hz.out]; rfl, 1, rfl⟩
  · have h1 : ∀ w, (binOp .mul 37 (.float .f64 (ub a)) (.float .f64 (ub b))).run Try.prog w = .ok (.float .f64 r) w := fun w => run_float_arith w .mul _ _ _ _ _ (by unfold floatBits; exact h)
    clear h
    go_enter Try.func20, Try.ntmps20
    go_wp2_with (first | (go_at_call 33; refine (float_any _ _).mono ?_; rintro e w' ⟨rfl, rfl⟩) | (go_at_call 37; refine (bits_any _ _).mono ?_; rintro e w' ⟨rfl, rfl⟩))
    go_ret
    exact ⟨rfl, 0, rfl⟩

theorem div_any (a b : Int) (w : World) :
    Calls Try.prog 22 #[.int .i64 a, .int .i64 b] w fun e w' => e = .returned (.int .i64 (ROf (Ieee.double.div (ub a) (ub b)))) ∧ ∃ n, w' = w.drewN n := by
  rcases h : Ieee.double.div (ub a) (ub b) with _ | r
  · obtain ⟨nb, hn, h1⟩ := run_float_nan (P := Try.prog) .quo (by simp) 37 (ub a) (ub b) (by unfold floatBits; exact h) w
    clear h
    have hz := Lib.hid (RBits_nan hn)
    clear hn
    go_enter Try.func22, Try.ntmps22
    go_wp2_with (first | (go_at_call 33; refine (float_any _ _).mono ?_; rintro e w' ⟨rfl, rfl⟩) | (go_at_call 37; refine (bits_any _ _).mono ?_; rintro e w' ⟨rfl, rfl⟩))
    go_ret
    exact ⟨by rw [hz.out]; rfl, 1, rfl⟩
  · have h1 : ∀ w, (binOp .quo 37 (.float .f64 (ub a)) (.float .f64 (ub b))).run Try.prog w = .ok (.float .f64 r) w := fun w => run_float_arith w .quo _ _ _ _ _ (by unfold floatBits; exact h)
    clear h
    go_enter Try.func22, Try.ntmps22
    go_wp2_with (first | (go_at_call 33; refine (float_any _ _).mono ?_; rintro e w' ⟨rfl, rfl⟩) | (go_at_call 37; refine (bits_any _ _).mono ?_; rintro e w' ⟨rfl, rfl⟩))
    go_ret
    exact ⟨rfl, 0, rfl⟩

theorem neg_any (a : Int) (w : World) :
    Calls Try.prog 24 #[.int .i64 a] w fun e w' => e = .returned (.int .i64 (RNeg a)) ∧ w = w' := by
  have h1 : ∀ w, (Op.unary .neg (.float .f64 (ub a))).run Try.prog w = .ok (.float .f64 (Op.negFloat .f64 (ub a))) w := fun _ => rfl
  go_enter Try.func24, Try.ntmps24
  go_wp2_with (first | (go_at_call 33; refine (float_any _ _).mono ?_; rintro e w' ⟨rfl, rfl⟩) | (go_at_call 37; refine (bits_any _ _).mono ?_; rintro e w' ⟨rfl, rfl⟩))
  go_ret
  exact ⟨rfl, rfl⟩

theorem ofint_any (n : Int) (w : World) :
    Calls Try.prog 28 #[.int .i64 n] w fun e w' => e = .returned (.int .i64 (ROfInt n)) ∧ w = w' := by
  go_enter Try.func28, Try.ntmps28
  go_wp2_with (first | (go_at_call 33; refine (float_any _ _).mono ?_; rintro e w' ⟨rfl, rfl⟩) | (go_at_call 37; refine (bits_any _ _).mono ?_; rintro e w' ⟨rfl, rfl⟩))
  go_ret
  exact ⟨rfl, rfl⟩

theorem toint_bad (a : Int) (h : tbad (ub a) = true) (w : World) :
    Calls Try.prog 26 #[.int .i64 a] w fun e w' => e = .returned (.tuple #[.int .i64 0, .int .i64 10]) ∧ w = w' := by
  have e1 : FloatKind.f64.format = Ieee.double := rfl
  unfold tbad at h
  rcases h1 : rnan (ub a) with _ | _ <;> rcases h2 : (Ieee.double.order (ub a) 14114281232179134464 == some .lt) with _ | _ <;> rcases h3 : (Ieee.double.order (ub a) 4890909195324358656 == some .gt || Ieee.double.order (ub a) 4890909195324358656 == some .eq) with _ | _ <;> rw [h1, h2, h3] at h <;> first | (exact absurd h (by decide)) | skip
  all_goals
    clear h
    go_enter Try.func26, Try.ntmps26
    go_wp2_with (first | (go_at_call 33; refine (float_any _ _).mono ?_; rintro e w' ⟨rfl, rfl⟩) | (go_at_call 34; refine (isnan_any _ _).mono ?_; rintro e w' ⟨rfl, rfl⟩))
    go_ret2
    exact ⟨rfl, rfl⟩

theorem toint_good (a n : Int) (h : tbad (ub a) = false) (hn : floatToIntVal .f64 (ub a) .i64 = some n) (w : World) :
    Calls Try.prog 26 #[.int .i64 a] w fun e w' => e = .returned (.tuple #[.int .i64 n, .int .i64 0]) ∧ w = w' := by
  have e1 : FloatKind.f64.format = Ieee.double := rfl
  have h4 : ∀ w, (convert 37 2 (.float .f64 (ub a))).run Try.prog w = .ok (.int .i64 n) w := fun w => run_convert_float_int w _ _ _ _ _ _ (by rw [Try.underlying37]; rfl) Try.underlying2 hn
  clear hn
  unfold tbad at h
  rcases h1 : rnan (ub a) with _ | _ <;> rcases h2 : (Ieee.double.order (ub a) 14114281232179134464 == some .lt) with _ | _ <;> rcases h3 : (Ieee.double.order (ub a) 4890909195324358656 == some .gt || Ieee.double.order (ub a) 4890909195324358656 == some .eq) with _ | _ <;> rw [h1, h2, h3] at h <;> first | (exact absurd h (by decide)) | skip
  clear h
  go_enter Try.func26, Try.ntmps26
  go_wp2_with (first | (go_at_call 33; refine (float_any _ _).mono ?_; rintro e w' ⟨rfl, rfl⟩) | (go_at_call 34; refine (isnan_any _ _).mono ?_; rintro e w' ⟨rfl, rfl⟩))
  go_ret2
  exact ⟨rfl, rfl⟩

theorem power_any (n : Nat) (hn : n ≤ 15) (w : World) :
    Calls Try.prog 42 #[.int .i64 n] w fun e w' => e = .returned (.float .f64 (P10 n)) ∧ w = w' := by
  go_enter Try.func42, Try.ntmps42
  go_wp2
  go_loop [3, 5] (fun p i => ∃ k : Nat, k ≤ n ∧ i = .int .i64 k ∧ p = .float .f64 (P10 k)) (fun _ i => n - (intOf i).toNat)
  case atStart => exact ⟨0, Nat.zero_le _, rfl, by rfl⟩
  case round =>
    obtain ⟨k, hk, rfl, rfl⟩ := hrel
    by_cases hlt : k < n
    · have h1 : ∀ w, (binOp .mul 37 (.float .f64 (P10 k)) (.float .f64 4621819117588971520)).run Try.prog w = .ok (.float .f64 (P10 (k + 1))) w := fun w => run_float_arith w .mul _ _ _ _ _ (by unfold floatBits; exact p10_step k (by omega))
      go_wp2
      go_round
      case rel => exact ⟨k + 1, by omega, by go_num, rfl⟩
      case measure => simp [intOf]; omega
    · go_wp2
      go_ret
      obtain rfl : k = n := by omega
      exact ⟨rfl, rfl⟩

theorem ofdecimal_bad (m s : Int) (h : dbad m s = true) (w : World) :
    Calls Try.prog 30 #[.int .i64 m, .int .i64 s] w fun e w' => e = .returned (.tuple #[.int .i64 0, .int .i64 11]) ∧ w = w' := by
  unfold dbad at h
  simp only [Bool.or_eq_true, decide_eq_true_eq] at h
  have h' : m < 0 ∨ (0 ≤ m ∧ 999999999999999 < m) ∨ (0 ≤ m ∧ m ≤ 999999999999999 ∧ s < 0) ∨ (0 ≤ m ∧ m ≤ 999999999999999 ∧ 0 ≤ s ∧ 15 < s) := by omega
  clear h
  rcases h' with h1 | ⟨h1, h2⟩ | ⟨h1, h2, h3⟩ | ⟨h1, h2, h3, h4⟩
  all_goals
    go_enter Try.func30, Try.ntmps30
    go_wp2_with fail
    go_ret2
    exact ⟨rfl, rfl⟩

theorem ofdecimal_good (m : Int) (s : Nat) (h1 : 0 ≤ m) (h2 : m ≤ 999999999999999) (h3 : s ≤ 15) (w : World) :
    Calls Try.prog 30 #[.int .i64 m, .int .i64 s] w fun e w' => e = .returned (.tuple #[.int .i64 (ROf (Ieee.double.div (floatOfInt .f64 m) (P10 s))), .int .i64 0]) ∧ ∃ n, w' = w.drewN n := by
  rcases h : Ieee.double.div (floatOfInt .f64 m) (P10 s) with _ | r
  · obtain ⟨nb, hn, h4⟩ := run_float_nan (P := Try.prog) .quo (by simp) 37 (floatOfInt .f64 m) (P10 s) (by unfold floatBits; exact h) w
    clear h
    have hz := Lib.hid (RBits_nan hn)
    clear hn
    go_enter Try.func30, Try.ntmps30
    go_wp2_with (first | (go_at_call 42; refine (power_any _ h3 _).mono ?_; rintro e w' ⟨rfl, rfl⟩) | (go_at_call 37; refine (bits_any _ _).mono ?_; rintro e w' ⟨rfl, rfl⟩))
    go_ret2
    exact ⟨by rw [hz.out]; rfl, 1, rfl⟩
  · have h4 : ∀ w, (binOp .quo 37 (.float .f64 (floatOfInt .f64 m)) (.float .f64 (P10 s))).run Try.prog w = .ok (.float .f64 r) w := fun w => run_float_arith w .quo _ _ _ _ _ (by unfold floatBits; exact h)
    clear h
    go_enter Try.func30, Try.ntmps30
    go_wp2_with (first | (go_at_call 42; refine (power_any _ h3 _).mono ?_; rintro e w' ⟨rfl, rfl⟩) | (go_at_call 37; refine (bits_any _ _).mono ?_; rintro e w' ⟨rfl, rfl⟩))
    go_ret2
    exact ⟨rfl, 0, rfl⟩

theorem ofdecimal_any (m s : Int) (w : World) :
    Calls Try.prog 30 #[.int .i64 m, .int .i64 s] w fun e w' => e = .returned (.tuple #[.int .i64 (ROfDecimal m s).1, .int .i64 (ROfDecimal m s).2]) ∧ ∃ n, w' = w.drewN n := by
  unfold ROfDecimal
  rcases h : dbad m s with _ | _
  · have h' := h
    unfold dbad at h'
    simp only [Bool.or_eq_false_iff, decide_eq_false_iff_not] at h'
    obtain ⟨k, rfl⟩ := Int.eq_ofNat_of_zero_le (show 0 ≤ s by omega)
    exact ofdecimal_good m k (by omega) (by omega) (by omega) w
  · refine (ofdecimal_bad m s h w).mono ?_
    rintro e w' ⟨rfl, rfl⟩
    exact ⟨rfl, 0, rfl⟩

end Go.Proofs.Yteeglmfjogoggaa
