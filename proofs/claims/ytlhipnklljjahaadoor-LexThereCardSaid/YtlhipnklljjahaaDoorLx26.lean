/-
  The document's text (haspref12): contracts over the translation.
  Conditions: none.
-/
import Derived.Test.YtlhipnklljjahaaDoorLx25
namespace Go.Proofs.YtlhipnklljjahaaDoor
set_option maxRecDepth 100000
open Go.RowKit Go.Joins Go.ChangeShapes Go.WideShapes
set_option linter.unusedVariables false
set_option linter.unusedSimpArgs false

def txtR (r : List Nat) : Except Nat (Tk × Nat) := match textL r with
  | none => .error 121
  | some x => if x.1.length > 200 then .error 1 else .ok (⟨4, x.1, 0, 0⟩, x.2)
/-- how the text's loop stands -/
structure RxS (w wr : World) (l : List Nat) (v : Value) (acc : List Nat) (k : Nat) : Prop where
  own : OwB wr (w.heap.size + 1) v acc
  kl : k ≤ l.length
  al : acc.length ≤ k
  eq : textL l = (textL (l.drop k)).map (fun x => (acc ++ x.1, k + x.2))
  bel : Below w.heap.size w wr
  sz : w.heap.size + 1 ≤ wr.heap.size
  bx : TBox wr w.heap.size 0 0 0 ⟨#[]⟩
theorem drop_getD (l : List Nat) (k : Nat) (h : k < l.length) : l.drop k = l.getD k 0 :: l.drop (k + 1) := by
  rw [List.drop_eq_getElem_cons h, List.getD_eq_getElem?_getD, List.getElem?_eq_getElem h]
  rfl
theorem getD_out (l : List Nat) (k : Nat) (h : ¬ k < l.length) : l.getD k 0 = 0 := by
  rw [List.getD_eq_getElem?_getD, List.getElem?_eq_none (by omega)]
  rfl
end Go.Proofs.YtlhipnklljjahaaDoor
