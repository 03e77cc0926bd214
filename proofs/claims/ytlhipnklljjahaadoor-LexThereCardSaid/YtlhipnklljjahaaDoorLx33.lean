/-
  Arguments of the laws on tokens: a text, a byte (layer 12).
  Conditions: none.
-/
import Derived.Test.YtlhipnklljjahaaDoorLx32
import Derived.Lib.Small
namespace Go.Proofs.YtlhipnklljjahaaDoor
set_option maxRecDepth 100000
open Go.RowKit Go.Joins Go.ChangeShapes Go.WideShapes
set_option linter.unusedVariables false
set_option linter.unusedSimpArgs false

theorem open_str {W : World} {r : Reach} {b0 : Nat} {v : Value} (o : Value.okWide Tryd.prog W r b0 9 v) : ∃ s : ByteArray, v = .string s ∧ s.size ≤ maxLen := by
  have o2 : Cell.okWide Tryd.prog W r b0 9 v := by
    unfold Value.okWide at o
    rw [Tryd.underlying9] at o
    exact o
  cases v <;> simp [Cell.okWide, Cell.ok, Tryd.underlying9] at o2
  exact ⟨_, rfl, by unfold maxLen; first | exact o2 | omega⟩

theorem lexGo_right : ∀ (n : Nat) (l : List Nat) (ts : List Tk), (∀ x ∈ l, x < 256) → lexGo n l = .ok ts → (∀ t ∈ ts, TkR t) ∧ ts.length ≤ l.length
  | 0, l, ts, hl, h => by
    simp only [lexGo, Except.ok.injEq] at h
    subst h
    exact ⟨fun t ht => by simp at ht, Nat.zero_le _⟩
  | n + 1, l, ts, hl, h => by
    rw [lexGo_succ] at h
    have hdl : (l.drop (runL blL l)).length ≤ l.length := by rw [List.length_drop]; omega
    have hdm : ∀ x ∈ l.drop (runL blL l), x < 256 := fun x hx => hl x (List.mem_of_mem_drop hx)
    generalize l.drop (runL blL l) = d at h hdl hdm
    cases d with
    | nil =>
      injection h with h
      subst h
      exact ⟨fun t ht => by simp at ht, Nat.zero_le _⟩
    | cons c r =>
      simp only at h
      cases ht : tokL (c :: r) with
      | error e => rw [ht] at h; cases h
      | ok x =>
        obtain ⟨t, k⟩ := x
        rw [ht] at h
        simp only at h
        obtain ⟨hk1, hk2⟩ := tokL_len _ t k ht
        cases hu : lexGo n ((c :: r).drop k) with
        | error e => rw [hu] at h; cases h
        | ok us =>
          rw [hu] at h
          injection h with h
          subst h
          obtain ⟨g1, g2⟩ := lexGo_right n _ us (fun x hx => hdm x (List.mem_of_mem_drop hx)) hu
          rw [List.length_drop] at g2
          refine ⟨fun x hx => ?_, by simp only [List.length_cons] at *; omega⟩
          rcases List.mem_cons.1 hx with e | e
          · rw [e]; exact tokL_right _ hdm t k ht
          · exact g1 x e
theorem toks_right {l : List Nat} {ts : List Tk} (hl : ∀ x ∈ l, x < 256) (h : toksE l = .ok ts) : (∀ t ∈ ts, TkR t) ∧ ts.length ≤ 4000 ∧ l.length ≤ 4000 ∧ lexL l = .ok ts := by
  unfold toksE at h
  split at h
  · cases h
  · obtain ⟨h1, h2⟩ := lexGo_right _ _ _ hl h
    exact ⟨h1, by omega, by omega, h⟩

end Go.Proofs.YtlhipnklljjahaaDoor
