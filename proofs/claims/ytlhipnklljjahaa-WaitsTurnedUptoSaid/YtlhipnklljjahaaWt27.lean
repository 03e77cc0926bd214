/-
  An append of some edges in a region that draws its order.
  Conditions: none.
-/
import Derived.Test.YtlhipnklljjahaaWt26
namespace Go.Proofs.Ytlhipnklljjahaa
open Go.RowKit Go.Joins Go.ChangeShapes Go.WideShapes
set_option linter.unusedVariables false
set_option linter.unnecessarySimpa false
set_option linter.unusedSimpArgs false

theorem step_appRun {ops : Array Oper} {o : Oper} {a : Act} {w : World} {K : Act → World → Prop} {Q : Exit → Act → World → Prop} {E : Prop} (hgd : o.guard = none) (s x : Operand) (t : TypeId)
    (ho : o.op = .call { callee := .builtin .append, args := #[s, x], argTypes := #[t, t] }) (v u : Value) (hs : a.eval s = v) (hx : a.eval x = u) {v' : Value} {w' : World}
    (hr : (Builtin.append_ #[t, t] o.type #[v, u]).run Try.prog w = .ok v' w') (h : K (a.put o.dst v') w') : if Region.wanted o (yielded ops a.tmps) = true then Oper.wp Try.prog o a w K Q else E := by
  have hw : Region.wanted o (yielded ops a.tmps) = true := by simp [Region.wanted, hgd]
  rw [if_pos hw]
  exact Lib.wp_append_run w s x t t ho v u hs hx _ _ hr h
theorem run_pushEd (w2 : World) (B : Nat) (v : Value) (L : List Eg) (hown : OwEd w2 B v L) (hB : B ≤ w2.heap.size) (news : List Eg) (cs : Array Value) (hcs : cs.toList = edcells news) (k : Nat) (hk : news.length = k) (hsz : L.length + news.length ≤ 4294967296) (ty : TypeId) :
    ∃ v' w', (Builtin.append_ #[22, 22] ty #[v, .slice (some ⟨w2.heap.size, 0, none⟩) k k]).run Try.prog (w2.alloc (.cells cs 27)).drew = .ok v' w' ∧ OwEd w' B v' (L ++ news) ∧ Below B w2 w' := by
  subst hk
  obtain ⟨i0, hi, hz0, hz1, hz2⟩ := info_parts infoEd
  have b1 : Below B w2 (w2.alloc (.cells cs 27)).drew := ((Below.refl _ _).alloc hB _).drew
  have hE := isEg_made w2 news cs hcs
  have ho : (w2.alloc (.cells cs 27)).drew.ownsRow B 27 2 v L.length (edcells L) := hown.1.alloc _
  obtain ⟨v', w', hrun, g1, g2, g3⟩ := run_append_own (P := Try.prog) (w2.alloc (.cells cs 27)).drew B 22 ty 27 i0 _ 2 16 Try.underlying22 hi hz0 hz1 hz2 rfl (by decide) v L.length (edcells L) ho ⟨w2.heap.size, 0, none⟩ news.length news.length (edcells news) (edcells_length news) (fun j u hj => by
    have ea : (⟨w2.heap.size, 0, none⟩ : Addr).add j = ⟨w2.heap.size, 0 + j, none⟩ := by unfold Addr.add; split <;> simp_all
    rw [ea]
    exact hE.news j u hj) (edcells_one news) (by unfold maxLen; omega) (by omega) (Nat.le_trans hB b1.size)
  refine ⟨v', w', hrun, ⟨?_, fun e => hown.2 (g3.1 e).1⟩, b1.grown g2 (Nat.le_trans hB b1.size) (fun k hk => (hown.1.lt k hk).1)⟩
  rw [edcells_app, List.length_append]
  exact g1

end Go.Proofs.Ytlhipnklljjahaa
