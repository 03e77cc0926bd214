/-
  Lists of values and of bytes that a literal has just made.
  Conditions: none.
-/
import Derived.Test.YtpknoclnmhomiabBulk
namespace Go.Proofs.Ytpknoclnmhomiab
open Go.RowKit Go.Joins Go.ChangeShapes Go.WideShapes
set_option linter.unusedVariables false

theorem isV_l (w : World) (l : List Vt) (cs : Array Value) (h : cs.toList = vlcells l) : IsV (w.alloc (.cells cs 43)) w.heap.size 0 l.length (kF l) (nF l) (sF l) := by
  have hg := heap_alloc_new w (.cells cs 43)
  have hc : ∀ j u, (vlcells l)[j]? = some u → (w.alloc (.cells cs 43)).cell? ⟨w.heap.size, j, none⟩ = some u := by
    intro j u hj
    rw [cell_of_block hg j, ← Array.getElem?_toList, h]
    exact hj
  refine ⟨fun _ => by simp, ?_, ?_, ?_⟩
  all_goals
    intro i hi
    have hx : l[i]? = some (l[i]'hi) := List.getElem?_eq_getElem hi
    obtain ⟨h1, h2, h3⟩ := vlcells_at l i _ hx
    rw [Nat.zero_add]
  · rw [hc _ _ h1]; simp [kF, List.getD_eq_getElem?_getD, hx]
  · rw [hc _ _ h2]; simp [nF, List.getD_eq_getElem?_getD, hx]
  · rw [hc _ _ h3]; simp [sF, List.getD_eq_getElem?_getD, hx]
theorem isB_l (w : World) (l : List Nat) (cs : Array Value) (h : cs.toList = bcells l) (hl : ∀ x ∈ l, x < 256) : IsB (w.alloc (.cells cs 5)) w.heap.size 0 l := by
  have hg := heap_alloc_new w (.cells cs 5)
  refine ⟨fun _ => by simp, fun i x hx => ?_, hl⟩
  rw [Nat.zero_add, cell_of_block hg i, ← Array.getElem?_toList, h]
  simp only [bcells, List.getElem?_map, hx, Option.map_some]

end Go.Proofs.Ytpknoclnmhomiab
