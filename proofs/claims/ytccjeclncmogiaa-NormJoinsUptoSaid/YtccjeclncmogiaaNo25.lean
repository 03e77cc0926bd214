/-
  How a condition bounds a column (norm's Bound): the contract, over the translation (layer 18).
  Conditions: the condition lies in memory, and is not greater than 4194304.
-/
import Derived.Test.YtccjeclncmogiaaNo18
namespace Go.Proofs.Ytccjeclncmogiaa
open Go.RowKit Go.Joins Go.ChangeShapes Go.WideShapes
set_option linter.unusedVariables false
set_option linter.unusedSimpArgs false

theorem bound_any {K : Bl} {w : World} (x : XC) (t : Int) (hs : szC x.er ≤ 4194304) (hm : XC.Mem K w x) :
    Calls Try.prog 8 #[x.val, .int .i64 t] w (BnE (fun w' y => y.Al ∧ XC.Mem (fun k => w.heap.size < k) w' y) w (bnd x.er t)) := by
  obtain ⟨op, ty, a, cap, args, vk, vn, vs, tab, col⟩ := x
  by_cases hc : turn op = 0 ∨ args.length ≠ 2
  · have e : bnd (XC.er (.mk op ty a cap args vk vn vs tab col)) t = (false, 0, 0, zCd) := by
      rw [XC.er]
      exact bnd_none (by rw [XC.erL_length]; exact hc)
    rw [e]
    exact bound_none (fun w' => ⟨by unfold XC.Al; exact ⟨.inl rfl, trivial⟩, XC.Mem.leaf _ _ _ _ _ _ _ _ _⟩) op ty a args.length cap vk vn vs tab col t hc
  · have h1 : turn op ≠ 0 := fun h => hc (.inl h)
    have h2 : args.length = 2 := by
      by_cases h : args.length = 2
      · exact h
      · exact absurd (.inr h) hc
    have h1' : (turn op == 0) = false := by simp [h1]
    obtain ⟨-, hsz⟩ := szC_arg hs
    match args, h2, hm, hsz with
    | [x, y], _, hm, hsz =>
      have e : bnd (XC.er (.mk op ty a cap [x, y] vk vn vs tab col)) t = if bds x.er y.er t = true then (true, x.er.col, op, y.er) else if bds y.er x.er t = true then (true, y.er.col, turn op, x.er) else (false, 0, 0, zCd) := by
        rw [XC.er, XC.erL, XC.erL, XC.erL]
        exact if_neg (c := turn op = 0) h1
      rw [e]
      exact bound_two op ty a cap x y vk vn vs tab col t h1' (XC.Mem.old _ hm).row ⟨hsz x (by simp), hsz y (by simp)⟩ (fun k hk => hk.2)

end Go.Proofs.Ytccjeclncmogiaa
