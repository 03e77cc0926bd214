/-
  Contracts over the translation: a number out of a key's bytes, a text out of a key's bytes (haspref05's number, text).
  Conditions: the bytes lie in memory.
-/
import Derived.Test.YtpknoclnmhomiabByt2
import Derived.Test.YtpknoclnmhomiabKey2
import Derived.Test.YtpknoclnmhomiabRef2
namespace Go.Proofs.Ytpknoclnmhomiab
open Go.RowKit Go.Joins Go.ChangeShapes Go.WideShapes
set_option linter.unusedVariables false

/-- the number that bytes make, the greatest first -/
def numU (l : List Nat) : Nat := l.foldl (fun u c => u * 256 + c) 0
theorem numU_snoc (l : List Nat) (c : Nat) : numU (l ++ [c]) = numU l * 256 + c := by unfold numU; rw [List.foldl_append]; rfl
theorem numU_lt : ∀ (n : Nat) (l : List Nat), (∀ x ∈ l, x < 256) → l.length = n → numU l < 256 ^ n
  | 0, l, _, h => by rw [List.length_eq_zero_iff.1 h]; decide
  | n + 1, l, hl, h => by
    have hd : l = l.take n ++ [l[n]'(by omega)] := by
      have := List.take_add_one (l := l) (i := n)
      rw [List.take_of_length_le (by omega), List.getElem?_eq_getElem (by omega)] at this
      exact this
    have h1 := numU_lt n (l.take n) (fun x hx => hl x (List.mem_of_mem_take hx)) (by rw [List.length_take]; omega)
    have h2 := hl (l[n]'(by omega)) (List.getElem_mem _)
    rw [hd, numU_snoc, Nat.pow_succ]
    omega
/-- the real that a number in the order is -/
def realN (u : Nat) : Int := if u < 9223372036854775808 then -1 - (u : Int) else (u : Int) - 9223372036854775808
/-- what a value's bytes say, by its kind: a number, an error -/
def numK (kind : Int) (u : Nat) : Int × Int :=
  if kind = 1 then (if 1 < u then (0, 2) else (u, 0)) else if kind = 2 then ((u : Int) - 9223372036854775808, 0) else
  if realN u = -9223372036854775808 ∨ realN u ≠ PCanon (realN u) then (0, 2) else (realN u, 0)

end Go.Proofs.Ytpknoclnmhomiab
