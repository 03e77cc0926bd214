/-
  Contracts of the package real (layer 1) over its translation: one form and order.
  Conditions: none.
-/
import Derived.Test.YtpknoclnmhomiaaRows
import Derived.WalkKit
import Derived.WalkSpells
import Derived.WalkLawsBesides
import Derived.Laws.Externs
import Derived.Lib.Hide
import Derived.Test.YtpknoclnmhomiaaPlain1
namespace Go.Proofs.Ytpknoclnmhomiaa
open Go.RowKit

theorem run_frombits (n : Int) (w : World) : (callFunc 54 #[.int .u64 n]).run Try.prog w = .ok (.value (.float .f64 n.toNat)) w := by
  rw [run_callFunc_extern (fn := Try.f54) (e := Extern.MathFloatBits.float64frombits) (by kernel_rfl) (by kernel_rfl) (by kernel_rfl) (by kernel_rfl) (by kernel_rfl)]
  rfl

theorem run_tobits (n : Nat) (w : World) : (callFunc 56 #[.float .f64 n]).run Try.prog w = .ok (.value (.int .u64 (n : Int))) w := by
  rw [run_callFunc_extern (fn := Try.f56) (e := Extern.MathFloatBits.float64bits) (by kernel_rfl) (by kernel_rfl) (by kernel_rfl) (by kernel_rfl) (by kernel_rfl)]
  rfl

theorem float_any (a : Int) (w : World) :
    Calls Try.prog 50 #[.int .i64 a] w fun e w' => e = .returned (.float .f64 (ub a)) ∧ w = w' := by
  have h1 := run_frombits (IntKind.u64.wrap a)
  go_enter Try.func50, Try.ntmps50
  go_wp2
  go_ret
  exact ⟨rfl, rfl⟩

theorem isnan_any (b : Nat) (w : World) :
    Calls Try.prog 51 #[.float .f64 b] w fun e w' => e = .returned (.bool (rnan b)) ∧ w = w' := by
  go_enter Try.func51, Try.ntmps51
  go_wp2
  go_ret
  exact ⟨rfl, rfl⟩

theorem bits_any (b : Nat) (w : World) :
    Calls Try.prog 53 #[.float .f64 b] w fun e w' => e = .returned (.int .i64 (RBits b)) ∧ w = w' := by
  have h1 := run_tobits b
  unfold RBits
  rcases hn : rnan b with _ | _
  all_goals
    go_enter Try.func53, Try.ntmps53
    go_wp2_with (go_at_call 51; refine (isnan_any b _).mono ?_; rintro e w' ⟨rfl, rfl⟩)
    go_ret
    exact ⟨rfl, rfl⟩

theorem canon_any (a : Int) (w : World) :
    Calls Try.prog 48 #[.int .i64 a] w fun e w' => e = .returned (.int .i64 (RCanon a)) ∧ w = w' := by
  go_enter Try.func48, Try.ntmps48
  go_wp2_with (first | (go_at_call 50; refine (float_any _ _).mono ?_; rintro e w' ⟨rfl, rfl⟩) | (go_at_call 53; refine (bits_any _ _).mono ?_; rintro e w' ⟨rfl, rfl⟩))
  go_ret
  exact ⟨rfl, rfl⟩

theorem cmpnan_any (b : Nat) (w : World) :
    Calls Try.prog 55 #[.float .f64 b] w fun e w' => e = .returned (.bool (rnan b)) ∧ w = w' := by
  go_enter Try.func55, Try.ntmps55
  go_wp2
  go_ret
  exact ⟨rfl, rfl⟩

theorem fcmp_any (x y : Nat) (hx : rnan x = false) (hy : rnan y = false) (w : World) :
    Calls Try.prog 52 #[.float .f64 x, .float .f64 y] w fun e w' => e = .returned (.int .i64 (fcmp x y)) ∧ w = w' := by
  unfold fcmp
  have e1 : FloatKind.f64.format = Ieee.double := rfl
  rcases h : Ieee.double.order x y with _ | (_ | _ | _)
  all_goals
    go_enter Try.func52, Try.ntmps52
    go_wp2_with (go_at_call 55; refine (cmpnan_any _ _).mono ?_; rintro e w' ⟨rfl, rfl⟩)
    go_ret
    exact ⟨rfl, rfl⟩

theorem order_any (a b : Int) (w : World) :
    Calls Try.prog 47 #[.int .i64 a, .int .i64 b] w fun e w' => e = .returned (.int .i64 (ROrder a b)) ∧ w = w' := by
  unfold ROrder forder
  rcases hx : rnan (ub a) <;> rcases hy : rnan (ub b)
  all_goals
    go_enter Try.func47, Try.ntmps47
    go_wp2_with (first | (go_at_call 50; refine (float_any _ _).mono ?_; rintro e w' ⟨rfl, rfl⟩) | (go_at_call 51; refine (isnan_any _ _).mono ?_; rintro e w' ⟨rfl, rfl⟩) | (go_at_call 52; refine (fcmp_any _ _ hx hy _).mono ?_; rintro e w' ⟨rfl, rfl⟩))
    go_ret
    exact ⟨rfl, rfl⟩

end Go.Proofs.Ytpknoclnmhomiaa
