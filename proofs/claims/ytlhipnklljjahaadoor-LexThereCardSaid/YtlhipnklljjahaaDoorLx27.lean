/-
  The document's token (haspref12): contracts over the translation.
  Conditions: none.
-/
import Derived.Test.YtlhipnklljjahaaDoorLx26
namespace Go.Proofs.YtlhipnklljjahaaDoor
set_option maxRecDepth 100000
open Go.RowKit Go.Joins Go.ChangeShapes Go.WideShapes
set_option linter.unusedVariables false
set_option linter.unusedSimpArgs false

theorem smI_low (c : Nat) : smI c = lowL c := by
  unfold smI lowL cpL
  by_cases h : 65 ≤ c ∧ c ≤ 90
  · rw [if_pos h, if_pos (by simpa using h)]
  · rw [if_neg h, if_neg (by simpa using h)]
/-- how the word's loop stands -/
structure RwS (w wr : World) (l : List Nat) (v : Value) (k : Nat) : Prop where
  own : OwB wr (w.heap.size + 1) v ((l.take k).map lowL)
  kl : k ≤ runL iwL l
  bel : Below w.heap.size w wr
  sz : w.heap.size + 1 ≤ wr.heap.size
  bx : TBox wr w.heap.size 0 0 0 ⟨#[]⟩
end Go.Proofs.YtlhipnklljjahaaDoor
