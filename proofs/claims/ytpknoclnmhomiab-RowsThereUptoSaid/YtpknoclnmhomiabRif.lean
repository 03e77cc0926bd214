/-
  What package rows' calls answer: the words for their contracts.
  Conditions: none.
-/
import Derived.Test.YtpknoclnmhomiabRow6
import Derived.Test.YtpknoclnmhomiabRow3
import Derived.Test.YtpknoclnmhomiabKif
namespace Go.Proofs.Ytpknoclnmhomiab
open Go.RowKit Go.Joins Go.ChangeShapes Go.WideShapes
set_option linter.unusedVariables false

/-- an outcome of Encode: the error's number F, the bytes L if there is none -/
def EncR (W : World) (F : Int) (L : List Nat) (e : Ending) (w' : World) : Prop :=
  ∃ v, e = .returned (.tuple #[v, .int .i64 F]) ∧ (F = 0 → OutB w' W.heap.size v L) ∧ (F ≠ 0 → ∃ a c, v = .slice a 0 c) ∧ Below W.heap.size W w'
theorem RdOk.decR {W : World} {X : List Vt × Int} {e : Ending} {w' : World} (h : RdOk W X e w') : DecR W X e w' := by
  obtain ⟨v, h1, h2, h3, h4⟩ := h
  exact ⟨v, h1, fun h => .inr (h2 h), h3, h4⟩
theorem rowB_lt (kf nf : Nat → Int) (sf : Nat → ByteArray) (n : Nat) : ∀ x ∈ rowB kf nf sf n, x < 256 := by
  intro x hx
  unfold rowB at hx
  rcases List.mem_append.1 hx with h | h
  · exact rbits_lt kf n _ x h
  · clear hx
    induction n with
    | zero => cases h
    | succ n ih =>
      unfold rvs at h
      rcases List.mem_append.1 h with h | h
      · exact ih h
      · exact rv_lt _ _ _ x h

end Go.Proofs.Ytpknoclnmhomiab
