/-
  Contracts over the translation: two lists with the same values are the same (SameRow); a list's copy (CopyRow).
  Conditions: the lists lie in memory.
-/
import Derived.Test.YtncganfjbalkgaaVal8
import Derived.Test.YtncganfjbalkgaaEq
import Derived.OwnWalk
import Derived.Laws.AppendOwn
import Derived.Laws.OwnMore
import Derived.Deep.AppendLies
import Derived.Deep.DeepMust
namespace Go.Proofs.Ytncganfjbalkgaa
open Go.RowKit Go.Joins Go.ChangeShapes Go.WideShapes
set_option linter.unusedVariables false

theorem veq_self (k n : Int) (s : ByteArray) : veq k n s k n s = true := by unfold veq; simp

/-- the cells of the first k values -/
def vcells (kf nf : Nat → Int) (sf : Nat → ByteArray) : Nat → List Value
  | 0 => []
  | k + 1 => vcells kf nf sf k ++ [.int .i64 (kf k), .int .i64 (nf k), .string (sf k)]

theorem vcells_length (kf nf : Nat → Int) (sf : Nat → ByteArray) (k : Nat) : (vcells kf nf sf k).length = k * 3 := by
  induction k with
  | zero => rfl
  | succ k ih => simp [vcells, ih]; omega

theorem vcells_at (kf nf : Nat → Int) (sf : Nat → ByteArray) (i : Nat) : ∀ m, i < m →
    (vcells kf nf sf m)[i * 3]? = some (.int .i64 (kf i)) ∧ (vcells kf nf sf m)[i * 3 + 1]? = some (.int .i64 (nf i)) ∧ (vcells kf nf sf m)[i * 3 + 2]? = some (.string (sf i))
  | 0, h => by omega
  | m + 1, h => by
    have hl := vcells_length kf nf sf m
    unfold vcells
    by_cases c : i < m
    · obtain ⟨h1, h2, h3⟩ := vcells_at kf nf sf i m c
      rw [List.getElem?_append_left (by omega), List.getElem?_append_left (by omega), List.getElem?_append_left (by omega)]
      exact ⟨h1, h2, h3⟩
    · obtain rfl : i = m := by omega
      rw [List.getElem?_append_right (by omega), List.getElem?_append_right (by omega), List.getElem?_append_right (by omega), hl]
      refine ⟨?_, ?_, ?_⟩
      · rw [Nat.sub_self]; rfl
      · rw [show i * 3 + 1 - i * 3 = 1 from by omega]; rfl
      · rw [show i * 3 + 2 - i * 3 = 2 from by omega]; rfl

def cInt : Option Value → Int | some (.int _ n) => n | _ => 0
def cStr : Option Value → ByteArray | some (.string s) => s | _ => ByteArray.empty

theorem cells_int : Try.prog.cellsOf 3 = 1 := by kernel_rfl
theorem cells_int64 : Try.prog.cellsOf 2 = 1 := by kernel_rfl
theorem cells_string : Try.prog.cellsOf 9 = 1 := by kernel_rfl

end Go.Proofs.Ytncganfjbalkgaa
