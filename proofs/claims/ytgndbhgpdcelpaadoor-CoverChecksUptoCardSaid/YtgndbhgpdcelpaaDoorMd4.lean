/-
  The document's calls on modes: contracts over the translation.
  Conditions: none.
-/
import Derived.Test.YtgndbhgpdcelpaaDoorMd3
namespace Go.Proofs.YtgndbhgpdcelpaaDoor
set_option maxRecDepth 100000
open Go.RowKit Go.Joins Go.ChangeShapes Go.WideShapes
set_option linter.unusedVariables false
set_option linter.unusedSimpArgs false

theorem seven {n : Nat} (h : n < 7) : n = 0 ∨ n = 1 ∨ n = 2 ∨ n = 3 ∨ n = 4 ∨ n = 5 ∨ n = 6 := by omega
theorem kn_no {a : Int} (h : kn a = false) : a < 0 ∨ 6 < a := by
  simp only [kn, Bool.and_eq_false_iff, decide_eq_false_iff_not] at h
  omega
theorem join_eq : ∀ a, a < 7 → ∀ b, b < 7 → (decide (jnI (a : Nat) (b : Nat) = (a : Nat)) = cvI (a : Nat) (b : Nat) ∧ kn (jnI (a : Nat) (b : Nat)) = true) := by decide +kernel
end Go.Proofs.YtgndbhgpdcelpaaDoor
