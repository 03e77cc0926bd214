/-
  What a search finds is no longer than the edges.
  Conditions: none.
-/
import Derived.Test.YtlhipnklljjahaaWt24
namespace Go.Proofs.Ytlhipnklljjahaa
open Go.RowKit Go.Joins Go.ChangeShapes Go.WideShapes
set_option linter.unusedVariables false
set_option linter.unnecessarySimpa false
set_option linter.unusedSimpArgs false

theorem Real.nodup {S : Int → List Int} {a : Int} {o : List Int} (h : Real S a o) : o.Nodup := by
  rcases h with ⟨rfl, _⟩ | ⟨_, _, _, _, _, _, hn, _⟩
  · exact List.nodup_nil
  · exact hn
theorem res_real {E : List Eg} {x0 : Int} {o : List Int} (h : Res (Sx E) x0 [(x0, Sx E x0)] [x0] o) : Real (Sx E) x0 o := h.real (SInv.start _ _)
theorem res_len {E : List Eg} {x0 : Int} {o : List Int} (h : Res (Sx E) x0 [(x0, Sx E x0)] [x0] o) : o.length ≤ E.length := by
  have hr := res_real h
  have := nodup_len o (E.map (·.1)) hr.nodup (fun x hx => by
    obtain ⟨y, hy⟩ := hr.waits x hx
    exact List.mem_map.2 ⟨(x, y), (mem_Sx ..).1 hy, rfl⟩)
  simpa using this

end Go.Proofs.Ytlhipnklljjahaa
