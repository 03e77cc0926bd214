/-
  Two lists of parts put together, for the law that speaks of it (layer 18).
  Conditions: none.
-/
import Derived.Test.YtccjeclncmogiaaNo27
import Derived.Test.YtccjeclncmogiaaNo12
import Derived.Deep.RegionLaw
import Derived.ArgAppend
import Derived.Lib.AppendZeros
namespace Go.Proofs.Ytccjeclncmogiaa
open Go.RowKit Go.Joins Go.ChangeShapes Go.WideShapes
set_option linter.unusedVariables false
set_option linter.unusedSimpArgs false

theorem LsC.app {B1 B2 : Nat} {w : World} {v1 v2 : Value} {l1 l2 : List XC} (h1 : LsC B1 w v1 l1) (h2 : LsC B2 w v2 l2) (hlt : ∀ k, v1.ownBlock = some k → k < B2) (hne : 0 < l2.length) (hB : B1 ≤ w.heap.size) (hsz : l1.length + l2.length ≤ 4294967297) :
    ∀ ty, ∃ v' w', (Builtin.append_ #[22, 22] ty #[v1, v2]).run Try.prog w = .ok v' w' ∧ (∃ a cap, v' = .slice a (l1 ++ l2).length cap ∧ XC.Row (fun _ => True) w' a cap (l1 ++ l2)) ∧ Frm (fun k => v1.ownBlock = some k) w w' := by
  intro ty
  have hnews : ∃ g cap, v2 = .slice (some ⟨g, 0, none⟩) l2.length cap ∧ ∀ j u, (ck.cells l2)[j]? = some u → w.cell? ((⟨g, 0, none⟩ : Addr).add j) = some u := by
    rcases h2.own.cases with ⟨-, rfl⟩ | ⟨g, cap, cur, rfl, hb, hg, hn, hc, hs, ht⟩
    · simp at hne
    · refine ⟨g, cap, rfl, fun j u hj => ?_⟩
      have ea : (⟨g, 0, none⟩ : Addr).add j = ⟨g, j, none⟩ := by unfold Addr.add; split <;> simp_all
      have hj' : j < l2.length * ck.n := by rw [← ck.cells_length]; exact (List.getElem?_eq_some_iff.1 hj).1
      rw [ea, cell_of_block hg]
      rw [← ht, List.getElem?_take, if_pos hj'] at hj
      simpa using hj
  obtain ⟨g2, cap2, rfl, hnw⟩ := hnews
  obtain ⟨v', w', hr, ho, hg, hn⟩ := OwR.append (K := ck) w B1 v1 l1 h1.own hB ⟨g2, 0, none⟩ l2.length cap2 l2 rfl hnw hsz ty
  have f : Frm (fun k => v1.ownBlock = some k) w w' := (Frm.refl _ _).grown hg (fun k hk => .inl hk)
  have hm : XC.MemL (fun _ => True) w' (l1 ++ l2) := XC.memL_iff.2 fun z hz => by
    rcases List.mem_append.1 hz with hz | hz
    · exact XC.Mem.mono (fun _ _ => trivial) _ (XC.Mem.frm f (fun k hk e => hk.2 e) _ (h1.mm z hz))
    · exact XC.Mem.mono (fun _ _ => trivial) _ (XC.Mem.frm f (fun k hk e => by have := hlt k e; omega) _ (h2.mm z hz))
  obtain ⟨a, cap, e, hrow⟩ := ho.row hm (fun _ _ => trivial)
  exact ⟨v', w', hr, ⟨a, cap, e, hrow⟩, f⟩
theorem own_low {B : Nat} {w : World} {v : Value} {l : List XC} (h : OwR ck w B v l) (hl : 0 < l.length) : B ≤ w.heap.size ∧ True := by
  rcases h.cases with ⟨-, rfl⟩ | ⟨g, cap, cur, rfl, hb, hg, -⟩
  · simp at hl
  · exact ⟨Nat.le_of_lt (Nat.lt_of_le_of_lt hb (Array.getElem?_eq_some_iff.1 hg).1), trivial⟩
theorem LsC.row {B : Nat} {w : World} {v : Value} {l : List XC} (h : LsC B w v l) : ∃ a cap, v = .slice a l.length cap ∧ XC.Row (fun k => k < w.heap.size) w a cap l := by
  have hm : XC.MemL (fun k => k < w.heap.size) w l := XC.memL_iff.2 fun z hz => XC.Mem.mono (fun k hk => hk.2) _ (XC.Mem.old z (h.mm z hz))
  exact h.own.row hm (fun k hk => (h.own.lt hk).2.1)
theorem conj_pos9 : ∀ (N : Nat) (c : Cd), depC c < N → 0 < (conj c).length
  | 0, c, h => absurd h (by omega)
  | N + 1, .mk op ty args vk vn vs tab col, h => by
    by_cases hc : op = 17 ∧ args.length = 2
    · obtain ⟨rfl, h2⟩ := hc
      match args, h2 with
      | [a, b], _ =>
        rw [depC, depCL, depCL, depCL] at h
        rw [conj_and, List.length_append]
        have := conj_pos9 N a (by omega)
        omega
    · rw [conj_one (by
        by_cases h1 : op = 17
        · exact .inr fun h2 => hc ⟨h1, h2⟩
        · exact .inl h1)]
      simp
/-- the same list of codes, said by the document -/
theorem same_any {K K' : Bl} {w : World} {a a' : Option Addr} {cap cap' : Nat} {l r : List XC} (h : l.map XC.er = r.map XC.er) (hm : XC.Row K w a cap l) (hm' : XC.Row K' w a' cap' r) :
    Calls Try.prog 10 #[.slice a l.length cap, .slice a' r.length cap'] w fun e w' => e = .returned (.bool true) ∧ Below w.heap.size w w' :=
  sames_q (samec_q (depCL (XC.erL l) + 1)) l r a a' cap cap' (by rw [XC.erL_map, XC.erL_map]; exact h) (fun x hx => Nat.lt_succ_of_le (depCL_mem (by rw [XC.erL_map]; exact List.mem_map_of_mem hx))) hm hm'
theorem step_appRun {ops : Array Oper} {o : Oper} {a : Act} {w : World} {K : Act → World → Prop} {Q : Exit → Act → World → Prop} {E : Prop} (hgd : o.guard = none) (s x : Operand) (t : TypeId)
    (ho : o.op = .call { callee := .builtin .append, args := #[s, x], argTypes := #[t, t] }) (v u : Value) (hs : a.eval s = v) (hx : a.eval x = u) {v' : Value} {w' : World}
    (hr : (Builtin.append_ #[t, t] o.type #[v, u]).run Try.prog w = .ok v' w') (h : K (a.put o.dst v') w') : if Region.wanted o (yielded ops a.tmps) = true then Oper.wp Try.prog o a w K Q else E := by
  have hw : Region.wanted o (yielded ops a.tmps) = true := by simp [Region.wanted, hgd]
  rw [if_pos hw]
  exact Lib.wp_append_run w s x t t ho v u hs hx _ _ hr h

end Go.Proofs.Ytccjeclncmogiaa
