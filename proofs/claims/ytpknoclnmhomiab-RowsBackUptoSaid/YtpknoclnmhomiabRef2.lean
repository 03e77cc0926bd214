/-
  Contracts of the document's answers for layer 1 (haspref01) over their translation: what they reckon.
  Conditions: none.
-/
import Derived.Test.YtpknoclnmhomiabRef1
import Derived.Test.YtpknoclnmhomiabReal2
namespace Go.Proofs.Ytpknoclnmhomiab
open Go.RowKit

theorem refcanon_any (a : Int) (w : World) :
    Calls Try.prog 31 #[.int .i64 a] w fun e w' => e = .returned (.int .i64 (PCanon a)) ∧ w = w' := by
  unfold PCanon
  rcases h : rnan (ub a) with _ | _
  all_goals
    go_enter Try.func31, Try.ntmps31
    go_wp2_with (go_at_call 29; refine (refnan_any _ _).mono ?_; rintro e w' ⟨rfl, rfl⟩)
    go_ret
    exact ⟨rfl, rfl⟩

end Go.Proofs.Ytpknoclnmhomiab
