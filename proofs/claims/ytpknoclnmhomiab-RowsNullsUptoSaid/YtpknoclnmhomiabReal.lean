/-
  Contracts of the package real (layer 1) over its translation: one form and order.
  Conditions: none.
-/
import Derived.Test.YtpknoclnmhomiabRows
import Derived.WalkKit
import Derived.WalkSpells
import Derived.WalkLawsBesides
import Derived.Laws.Externs
import Derived.Lib.Hide
import Derived.Test.YtpknoclnmhomiabPlain1
namespace Go.Proofs.Ytpknoclnmhomiab
open Go.RowKit

theorem run_frombits (n : Int) (w : World) : (callFunc 39 #[.int .u64 n]).run Try.prog w = .ok (.value (.float .f64 n.toNat)) w := by
  rw [run_callFunc_extern (fn := Try.f39) (e := Extern.MathFloatBits.float64frombits) (by kernel_rfl) (by kernel_rfl) (by kernel_rfl) (by kernel_rfl) (by kernel_rfl)]
  rfl

theorem run_tobits (n : Nat) (w : World) : (callFunc 38 #[.float .f64 n]).run Try.prog w = .ok (.value (.int .u64 (n : Int))) w := by
  rw [run_callFunc_extern (fn := Try.f38) (e := Extern.MathFloatBits.float64bits) (by kernel_rfl) (by kernel_rfl) (by kernel_rfl) (by kernel_rfl) (by kernel_rfl)]
  rfl

theorem float_any (a : Int) (w : World) :
    Calls Try.prog 36 #[.int .i64 a] w fun e w' => e = .returned (.float .f64 (ub a)) ∧ w = w' := by
  have h1 := run_frombits (IntKind.u64.wrap a)
  go_enter Try.func36, Try.ntmps36
  go_wp2
  go_ret
  exact ⟨rfl, rfl⟩

theorem isnan_any (b : Nat) (w : World) :
    Calls Try.prog 37 #[.float .f64 b] w fun e w' => e = .returned (.bool (rnan b)) ∧ w = w' := by
  go_enter Try.func37, Try.ntmps37
  go_wp2
  go_ret
  exact ⟨rfl, rfl⟩

theorem bits_any (b : Nat) (w : World) :
    Calls Try.prog 35 #[.float .f64 b] w fun e w' => e = .returned (.int .i64 (RBits b)) ∧ w = w' := by
  have h1 := run_tobits b
  unfold RBits
  rcases hn : rnan b with _ | _
  all_goals
    go_enter Try.func35, Try.ntmps35
    go_wp2_with (go_at_call 37; refine (isnan_any b _).mono ?_; rintro e w' ⟨rfl, rfl⟩)
    go_ret
    exact ⟨rfl, rfl⟩

theorem canon_any (a : Int) (w : World) :
    Calls Try.prog 34 #[.int .i64 a] w fun e w' => e = .returned (.int .i64 (RCanon a)) ∧ w = w' := by
  go_enter Try.func34, Try.ntmps34
  go_wp2_with (first | (go_at_call 36; refine (float_any _ _).mono ?_; rintro e w' ⟨rfl, rfl⟩) | (go_at_call 35; refine (bits_any _ _).mono ?_; rintro e w' ⟨rfl, rfl⟩))
  go_ret
  exact ⟨rfl, rfl⟩

end Go.Proofs.Ytpknoclnmhomiab
