/-
  Contracts of the document's answers for layer 1 (haspref01) over their translation: parts, places, order.
  Conditions: none.
-/
import Derived.Test.YtpknoclnmhomiabReal
namespace Go.Proofs.Ytpknoclnmhomiab
open Go.RowKit

theorem parts_any (a : Int) (w : World) :
    Calls Try.prog 33 #[.int .i64 a] w fun e w' => e = .returned (.tuple #[.int .i64 (ub a / 9223372036854775808 : Nat), .int .i64 (ub a / 4503599627370496 % 2048 : Nat), .int .i64 (ub a % 4503599627370496 : Nat)]) ∧ w = w' := by
  have h0 := wrap_u64_ub a
  have hlt := ub_lt a
  have h1 : bits .and .u64 ((ub a : Int) / 4503599627370496) 2047 = ((ub a / 4503599627370496 % 2048 : Nat) : Int) := and2047 (ub a / 4503599627370496) (by omega)
  have h2 : bits .and .u64 (ub a : Int) 4503599627370495 = ((ub a % 4503599627370496 : Nat) : Int) := and52 (ub a) hlt
  go_enter Try.func33, Try.ntmps33
  go_wp2
  go_ret3
  exact ⟨ret_i3 (by omega) (by omega) (by omega), rfl⟩

theorem refnan_any (a : Int) (w : World) :
    Calls Try.prog 29 #[.int .i64 a] w fun e w' => e = .returned (.bool (rnan (ub a))) ∧ w = w' := by
  rw [rnan_iff, ub_parts a]
  have hb : ub a % 4503599627370496 < 4503599627370496 := Nat.mod_lt _ (by decide)
  have hb2 : ub a / 4503599627370496 % 2048 < 2048 := Nat.mod_lt _ (by decide)
  have hp := parts_any a
  generalize ub a / 9223372036854775808 = s at *
  generalize ub a / 4503599627370496 % 2048 = e at *
  generalize ub a % 4503599627370496 = f at *
  unfold INF
  by_cases c : e = 2047
  · subst c
    by_cases d : f = 0
    · subst d
      have HP := Lib.hid hp
      clear hp
      rw [show decide (9218868437227405312 < 2047 * 4503599627370496 + 0) = false from by decide]
      go_enter Try.func29, Try.ntmps29
      go_wp2_with (go_at_call 33; refine (HP.out _).mono ?_; rintro e w' ⟨rfl, rfl⟩)
      go_ret
      exact ⟨rfl, rfl⟩
    · have HP := Lib.hid hp
      clear hp
      rw [show decide (9218868437227405312 < 2047 * 4503599627370496 + f) = true from by simp; omega]
      have h3 : ((f : Int) != 0) = true := by simp; omega
      go_enter Try.func29, Try.ntmps29
      go_wp2_with (go_at_call 33; refine (HP.out _).mono ?_; rintro e w' ⟨rfl, rfl⟩)
      go_ret
      exact ⟨rfl, rfl⟩
  · have HP := Lib.hid hp
    clear hp
    rw [show decide (9218868437227405312 < e * 4503599627370496 + f) = false from by simp; omega]
    have h3 : ((e : Int) == 2047) = false := by simp; omega
    go_enter Try.func29, Try.ntmps29
    go_wp2_with (go_at_call 33; refine (HP.out _).mono ?_; rintro e w' ⟨rfl, rfl⟩)
    go_ret
    exact ⟨rfl, rfl⟩

end Go.Proofs.Ytpknoclnmhomiab
