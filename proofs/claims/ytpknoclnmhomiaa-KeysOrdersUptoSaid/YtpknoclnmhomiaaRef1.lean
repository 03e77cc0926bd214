/-
  Contracts of the document's answers for layer 1 (haspref01) over their translation: parts, places, order.
  Conditions: none.
-/
import Derived.Test.YtpknoclnmhomiaaReal
namespace Go.Proofs.Ytpknoclnmhomiaa
open Go.RowKit

theorem parts_any (a : Int) (w : World) :
    Calls Try.prog 46 #[.int .i64 a] w fun e w' => e = .returned (.tuple #[.int .i64 (ub a / 9223372036854775808 : Nat), .int .i64 (ub a / 4503599627370496 % 2048 : Nat), .int .i64 (ub a % 4503599627370496 : Nat)]) ∧ w = w' := by
  have h0 := wrap_u64_ub a
  have hlt := ub_lt a
  have h1 : bits .and .u64 ((ub a : Int) / 4503599627370496) 2047 = ((ub a / 4503599627370496 % 2048 : Nat) : Int) := and2047 (ub a / 4503599627370496) (by omega)
  have h2 : bits .and .u64 (ub a : Int) 4503599627370495 = ((ub a % 4503599627370496 : Nat) : Int) := and52 (ub a) hlt
  go_enter Try.func46, Try.ntmps46
  go_wp2
  go_ret3
  exact ⟨ret_i3 (by omega) (by omega) (by omega), rfl⟩

theorem refnan_any (a : Int) (w : World) :
    Calls Try.prog 34 #[.int .i64 a] w fun e w' => e = .returned (.bool (rnan (ub a))) ∧ w = w' := by
  rw [rnan_iff, ub_parts a]
  have hb : ub a % 4503599627370496 < 4503599627370496 := Nat.mod_lt _ (by decide)
  have hb2 : ub a / 4503599627370496 % 2048 < 2048 := Nat.mod_lt _ (by decide)
  have hp := parts_any a
  generalize ub a / 9223372036854775808 = s at *
  generalize ub a / 4503599627370496 % 2048 = e at *
  generalize ub a % 4503599627370496 = f at *
  unfold INF
  by_cases c : e = 2047
  · subst c
    by_cases d : f = 0
    · subst d
      have HP := Lib.hid hp
      clear hp
      rw [show decide (9218868437227405312 < 2047 * 4503599627370496 + 0) = false from by decide]
      go_enter Try.func34, Try.ntmps34
      go_wp2_with (go_at_call 46; refine (HP.out _).mono ?_; rintro e w' ⟨rfl, rfl⟩)
      go_ret
      exact ⟨rfl, rfl⟩
    · have HP := Lib.hid hp
      clear hp
      rw [show decide (9218868437227405312 < 2047 * 4503599627370496 + f) = true from by simp; omega]
      have h3 : ((f : Int) != 0) = true := by simp; omega
      go_enter Try.func34, Try.ntmps34
      go_wp2_with (go_at_call 46; refine (HP.out _).mono ?_; rintro e w' ⟨rfl, rfl⟩)
      go_ret
      exact ⟨rfl, rfl⟩
  · have HP := Lib.hid hp
    clear hp
    rw [show decide (9218868437227405312 < e * 4503599627370496 + f) = false from by simp; omega]
    have h3 : ((e : Int) == 2047) = false := by simp; omega
    go_enter Try.func34, Try.ntmps34
    go_wp2_with (go_at_call 46; refine (HP.out _).mono ?_; rintro e w' ⟨rfl, rfl⟩)
    go_ret
    exact ⟨rfl, rfl⟩

theorem place_any (a : Int) (w : World) :
    Calls Try.prog 49 #[.int .i64 a] w fun e w' => e = .returned (.int .i64 (PPlace a)) ∧ w = w' := by
  unfold PPlace pl
  rw [ub_sign, ub_parts a]
  have hb : ub a % 4503599627370496 < 4503599627370496 := Nat.mod_lt _ (by decide)
  have hb2 : ub a / 4503599627370496 % 2048 < 2048 := Nat.mod_lt _ (by decide)
  have hp := parts_any a
  have hn := refnan_any a
  generalize ub a / 9223372036854775808 = s at *
  generalize ub a / 4503599627370496 % 2048 = e at *
  generalize ub a % 4503599627370496 = f at *
  generalize rnan (ub a) = t at *
  have HP := Lib.hid hp
  have HN := Lib.hid hn
  clear hp hn
  by_cases c : s = 1
  · subst c
    cases t
    all_goals
      go_enter Try.func49, Try.ntmps49
      go_wp2_with (first | (go_at_call 46; refine (HP.out _).mono ?_; rintro e w' ⟨rfl, rfl⟩) | (go_at_call 34; refine (HN.out _).mono ?_; rintro e w' ⟨rfl, rfl⟩))
      go_ret
      exact ⟨ret_i (by simp), rfl⟩
  · have h3 : ((s : Int) == 1) = false := by simp; omega
    cases t
    all_goals
      go_enter Try.func49, Try.ntmps49
      go_wp2_with (first | (go_at_call 46; refine (HP.out _).mono ?_; rintro e w' ⟨rfl, rfl⟩) | (go_at_call 34; refine (HN.out _).mono ?_; rintro e w' ⟨rfl, rfl⟩))
      go_ret
      exact ⟨ret_i (by simp), rfl⟩

theorem reforder_any (a b : Int) (w : World) :
    Calls Try.prog 45 #[.int .i64 a, .int .i64 b] w fun e w' => e = .returned (.int .i64 (POrder a b)) ∧ w = w' := by
  unfold POrder
  have ha := place_any a
  have hb := place_any b
  generalize PPlace a = x at *
  generalize PPlace b = y at *
  have HA := Lib.hid ha
  have HB := Lib.hid hb
  clear ha hb
  go_enter Try.func45, Try.ntmps45
  go_wp2_with fail
  refine (HA.out _).mono ?_
  rintro e w' ⟨rfl, rfl⟩
  go_wp2_with fail
  refine (HB.out _).mono ?_
  rintro e w' ⟨rfl, rfl⟩
  go_wp2
  all_goals
    go_ret
    exact ⟨ret_i (by (repeat' split) <;> omega), rfl⟩

end Go.Proofs.Ytpknoclnmhomiaa
