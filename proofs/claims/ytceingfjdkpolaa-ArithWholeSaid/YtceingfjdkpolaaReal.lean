/-
  Contracts of the package real (layer 1) over its translation: one form and order.
  Conditions: none.
-/
import Derived.Test.YtceingfjdkpolaaRows
import Derived.WalkKit
import Derived.WalkSpells
import Derived.WalkLawsBesides
import Derived.Laws.Externs
import Derived.Lib.Hide
import Derived.Test.YtceingfjdkpolaaPlain1
namespace Go.Proofs.Ytceingfjdkpolaa
open Go.RowKit

theorem run_frombits (n : Int) (w : World) : (callFunc 59 #[.int .u64 n]).run Try.prog w = .ok (.value (.float .f64 n.toNat)) w := by
  rw [run_callFunc_extern (fn := Try.f59) (e := Extern.MathFloatBits.float64frombits) (by kernel_rfl) (by kernel_rfl) (by kernel_rfl) (by kernel_rfl) (by kernel_rfl)]
  rfl

theorem run_tobits (n : Nat) (w : World) : (callFunc 61 #[.float .f64 n]).run Try.prog w = .ok (.value (.int .u64 (n : Int))) w := by
  rw [run_callFunc_extern (fn := Try.f61) (e := Extern.MathFloatBits.float64bits) (by kernel_rfl) (by kernel_rfl) (by kernel_rfl) (by kernel_rfl) (by kernel_rfl)]
  rfl

theorem float_any (a : Int) (w : World) :
    Calls Try.prog 56 #[.int .i64 a] w fun e w' => e = .returned (.float .f64 (ub a)) ∧ w = w' := by
  have h1 := run_frombits (IntKind.u64.wrap a)
  go_enter Try.func56, Try.ntmps56
  go_wp2
  go_ret
  exact ⟨rfl, rfl⟩

theorem isnan_any (b : Nat) (w : World) :
    Calls Try.prog 57 #[.float .f64 b] w fun e w' => e = .returned (.bool (rnan b)) ∧ w = w' := by
  go_enter Try.func57, Try.ntmps57
  go_wp2
  go_ret
  exact ⟨rfl, rfl⟩

theorem bits_any (b : Nat) (w : World) :
    Calls Try.prog 58 #[.float .f64 b] w fun e w' => e = .returned (.int .i64 (RBits b)) ∧ w = w' := by
  have h1 := run_tobits b
  unfold RBits
  rcases hn : rnan b with _ | _
  all_goals
    go_enter Try.func58, Try.ntmps58
    go_wp2_with (go_at_call 57; refine (isnan_any b _).mono ?_; rintro e w' ⟨rfl, rfl⟩)
    go_ret
    exact ⟨rfl, rfl⟩

end Go.Proofs.Ytceingfjdkpolaa
