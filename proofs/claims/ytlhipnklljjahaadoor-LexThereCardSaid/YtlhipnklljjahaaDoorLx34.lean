/-
  The document's reserved words and names (haspref12): contracts over the translation.
  Conditions: none.
-/
import Derived.Test.YtlhipnklljjahaaDoorLx33
import Derived.Test.YtlhipnklljjahaaDoorLx27
import Derived.Deep.QuietTactic
import Derived.Deep.DeepCutAuto
import Derived.Deep.WholeRow
import Derived.Great.Walk
import Derived.Great.BuildSlice
namespace Go.Proofs.YtlhipnklljjahaaDoor
set_option maxRecDepth 100000
open Go.RowKit Go.Joins Go.ChangeShapes Go.WideShapes Go.Great
set_option linter.unusedVariables false
set_option linter.unusedSimpArgs false

/-- the reserved words as the document's list has them -/
def resV : Array Value := (resW.map fun l => Value.string ⟨l.toArray⟩).toArray
theorem res_eq (s : ByteArray) (l : List UInt8) : (l == s.toList) = (s.toList == l) := by
  rw [Bool.eq_iff_iff]
  simp only [beq_iff_eq]
  exact ⟨fun h => h.symm, fun h => h.symm⟩
theorem res_yes (s : ByteArray) (k : Nat) (hk : k < 37) (h : (s.toList == resW.getD k []) = true) : resB s = true := by
  unfold resB
  refine List.any_eq_true.2 ⟨resW.getD k [], ?_, h⟩
  have hl : k < resW.length := hk
  rw [List.getD_eq_getElem?_getD, List.getElem?_eq_getElem hl]
  exact List.getElem_mem hl
theorem res_no (s : ByteArray) (h : ∀ j, j < 37 → (s.toList == resW.getD j []) = false) : resB s = false := by
  unfold resB
  refine List.any_eq_false.2 fun x hx => ?_
  obtain ⟨i, hi⟩ := List.getElem?_of_mem hx
  have hl : i < resW.length := (List.getElem?_eq_some_iff.1 hi).1
  have := h i hl
  rw [List.getD_eq_getElem?_getD, hi] at this
  simpa using this
theorem in_iff (c : Nat) : inL c = ((lowL c == c) && (bwL c || dgL c)) := by
  unfold inL iwL lowL
  by_cases h : cpL c = true
  · rw [if_pos h, h]
    have : (c + 32 == c) = false := by simp
    rw [this]
    simp
  · have h2 : cpL c = false := by simpa using h
    rw [if_neg h, h2]
    simp
theorem runL_full {f : Nat → Bool} : ∀ (l : List Nat), (∀ j, j < l.length → f (l.getD j 0) = true) → runL f l = l.length
  | [], _ => rfl
  | c :: r, h => by
    rw [runL_cons, if_pos (show f c = true from h 0 (by simp)), runL_full r (fun j hj => h (j + 1) (by simp; omega))]
    rfl
theorem runL_short {f : Nat → Bool} : ∀ (l : List Nat) (j : Nat), j < l.length → f (l.getD j 0) = false → runL f l < l.length
  | [], j, h, _ => by simp at h
  | c :: r, j, h, hf => by
    rw [runL_cons]
    by_cases hc : f c = true
    · rw [if_pos hc]
      cases j with
      | zero =>
        rw [show (c :: r).getD 0 0 = c from rfl, hc] at hf
        cases hf
      | succ j =>
        have := runL_short r j (by simp at h; omega) hf
        simp
        omega
    · rw [if_neg hc]; simp
end Go.Proofs.YtlhipnklljjahaaDoor
