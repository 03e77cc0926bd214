/-
  The document's byte at a place, and its number (haspref12): contracts over the translation.
  Conditions: none.
-/
import Derived.Test.YtlhipnklljjahaaDoorLx23
namespace Go.Proofs.YtlhipnklljjahaaDoor
set_option maxRecDepth 100000
open Go.RowKit Go.Joins Go.ChangeShapes Go.WideShapes
set_option linter.unusedVariables false
set_option linter.unusedSimpArgs false

theorem slx_at (s : ByteArray) (q : Nat) (h : q < s.size) : (sl s)[q]? = some (s[q]'h).toNat := by
  unfold sl
  rw [List.getElem?_map, Array.getElem?_toList, Array.getElem?_eq_getElem h]
  rfl
theorem slx_get (s : ByteArray) (q : Nat) (h : q < s.size) : (sl s).getD q 0 = (s[q]'h).toNat := by
  rw [List.getD_eq_getElem?_getD, slx_at s q h]
  rfl
theorem slx_lt (s : ByteArray) (q : Nat) : (sl s).getD q 0 < 256 := by
  by_cases h : q < s.size
  · rw [slx_get s q h]; exact (s[q]'h).toNat_lt
  · rw [List.getD_eq_getElem?_getD, List.getElem?_eq_none (by rw [sl_length]; omega)]
    decide
end Go.Proofs.YtlhipnklljjahaaDoor
