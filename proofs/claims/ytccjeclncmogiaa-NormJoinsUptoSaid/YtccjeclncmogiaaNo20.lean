/-
  Over which sources a code goes (norm's meet, Sources), over the translation (layer 18).
  Conditions: the code lies in memory, and is not greater than 4194304.
-/
import Derived.Test.YtccjeclncmogiaaNo4
import Derived.Test.YtccjeclncmogiaaNo8
namespace Go.Proofs.Ytccjeclncmogiaa
open Go.RowKit Go.Joins Go.ChangeShapes Go.WideShapes
set_option linter.unusedVariables false
set_option linter.unusedSimpArgs false

/-- a set of whole numbers in memory, of no more than so many -/
def SetN (w : World) (b : Nat) (p : Int → Prop) (m : Nat) : Prop := ∃ f n, IMap (.int .i64) ik w b f n ∧ (∀ x, (f x).isSome = true ↔ p x) ∧ n ≤ m
theorem SetN.lt {w : World} {b m : Nat} {p : Int → Prop} (h : SetN w b p m) : b < w.heap.size := by obtain ⟨f, n, h1, -⟩ := h; exact h1.lt
theorem SetN.below {w w1 : World} {b m : Nat} {p : Int → Prop} (h : SetN w b p m) (hb : Below w.heap.size w w1) : SetN w1 b p m := by
  obtain ⟨f, n, h1, h2⟩ := h
  exact ⟨f, n, h1.below hb, h2⟩
theorem setn_made (w : World) (b : Nat) (hb : w.heap.size = b) : SetN (w.alloc (.map #[] 0)) b (fun _ => False) 0 := ⟨_, _, imap_made (.int .i64) ik w b hb, fun _ => by simp, Nat.le_refl _⟩
theorem SetN.put {w : World} {b m : Nat} {p : Int → Prop} (h : SetN w b p m) (x : Int) : ∃ w', (Instr.mapUpdate 48 (.map (some b)) (.int .i64 x) (.agg #[])).run Try.prog w = .ok () w' ∧ SetN w' b (fun y => p y ∨ y = x) (m + 1) ∧ Frm (fun k => k = b) w w' := by
  obtain ⟨f, n, h1, h2, h3⟩ := h
  obtain ⟨w', hr, m', g, -⟩ := h1.put (P := Try.prog) (t := 48) Try.underlying48 Try.underlying3 ik_key ik_inj x (.agg #[])
  refine ⟨w', hr, ⟨_, _, m', fun y => ?_, ?_⟩, Frm.grown (Frm.refl _ w) g (fun k hk => by injection hk with hk; exact .inl hk.symm)⟩
  · by_cases c : y = x
    · simp [c]
    · rw [if_neg c, h2]
      simp [c]
  · split <;> omega
theorem wpMU {ops : Array Oper} {rest : List Oper} {o : Oper} {a : Act} {w wz : World} {Q : Exit → Act → World → Prop} {T : TypeId} (hgd : o.guard = none) (x y z : Operand) (ho : o.op = .mapUpdate T x y z) {m k v : Value} (hx : a.eval x = m) (hy : a.eval y = k) (hz : a.eval z = v)
    (hst : (Instr.mapUpdate T m k v).run Try.prog w = .ok () wz) (h : wpList Try.prog ops Q rest (a.put o.dst undef) wz) : wpList Try.prog ops Q (o :: rest) a w :=
  wpList_plain hgd fun _ hK => by
    unfold Oper.wp execOp
    simp only [ho, hx, hy, hz, Sem.run_bind, Sem.run_pure, Result.andThen_ok, hst]
    exact hK _ _ h

end Go.Proofs.Ytccjeclncmogiaa
