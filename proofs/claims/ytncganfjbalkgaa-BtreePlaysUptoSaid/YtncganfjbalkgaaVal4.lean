/-
  Contracts over the translation: the order of two values, of package value (layer 2) and of the document's answer.
  Conditions: the values' numbers are int64 numbers.
-/
import Derived.Test.YtncganfjbalkgaaVal2
namespace Go.Proofs.Ytncganfjbalkgaa
open Go.RowKit Go.Joins Go.ChangeShapes Go.WideShapes
set_option linter.unusedVariables false

/-- the order of two values -/
def VCmp (k n : Int) (s : ByteArray) (k' n' : Int) (s' : ByteArray) : Int :=
  if k < k' then -1 else if k' < k then 1 else if k = 0 then 0 else if k = 3 then POrder n n' else if k = 4 then SCmp s s' else cmpI n n'

theorem two_below (w : World) (a b : Obj) : Below w.heap.size w ((w.alloc a).alloc b) :=
  ((Below.refl _ _).alloc (Nat.le_refl _) _).alloc (by simp) _

theorem bytesLess_cmp : ∀ a b : List UInt8, Op.bytesLess a b = (Lib.compareBytes a b == -1) ∧ (!(Op.bytesLess a b || a == b)) = (Lib.compareBytes a b == 1)
  | [], [] => by decide
  | [], _ :: _ => by simp [Op.bytesLess, Lib.compareBytes]
  | _ :: _, [] => by simp [Op.bytesLess, Lib.compareBytes]
  | a :: x, b :: y => by
    obtain ⟨h1, h2⟩ := bytesLess_cmp x y
    unfold Op.bytesLess Lib.compareBytes
    by_cases c : a < b
    · have : a ≠ b := fun e => by subst e; exact absurd c (UInt8.lt_irrefl a)
      simp [c]
    · by_cases d : b < a
      · have : a ≠ b := fun e => by subst e; exact absurd d (UInt8.lt_irrefl a)
        simp [c, d, this]
      · have : a = b := UInt8.le_antisymm (UInt8.not_lt.1 d) (UInt8.not_lt.1 c)
        subst this
        simp only [c, if_false, decide_false, Bool.false_or, beq_self_eq_true, Bool.true_and]
        refine ⟨h1, ?_⟩
        rw [← h2]
        congr 2
        simp

theorem cmp_vals : ∀ a b : List UInt8, Lib.compareBytes a b = -1 ∨ Lib.compareBytes a b = 0 ∨ Lib.compareBytes a b = 1
  | [], [] => by decide
  | [], _ :: _ => by simp [Lib.compareBytes]
  | _ :: _, [] => by simp [Lib.compareBytes]
  | a :: x, b :: y => by
    have := cmp_vals x y
    unfold Lib.compareBytes
    split
    · simp
    · split
      · simp
      · exact this

end Go.Proofs.Ytncganfjbalkgaa
