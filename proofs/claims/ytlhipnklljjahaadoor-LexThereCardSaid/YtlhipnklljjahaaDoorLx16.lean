/-
  The tokens of a text, one after the other (layer 12).
  Conditions: none.
-/
import Derived.Test.YtlhipnklljjahaaDoorLx15
namespace Go.Proofs.YtlhipnklljjahaaDoor
set_option maxRecDepth 100000
open Go.RowKit Go.Joins Go.ChangeShapes Go.WideShapes
set_option linter.unusedVariables false
set_option linter.unusedSimpArgs false

/-- tokens ahead of others -/
def preT (ts : List Tk) : Except Nat (List Tk) → Except Nat (List Tk)
  | .error e => .error e
  | .ok us => .ok (ts ++ us)
theorem preT_nil (x : Except Nat (List Tk)) : preT [] x = x := by cases x <;> rfl
theorem lexL_nil : lexL [] = .ok [] := rfl
theorem drop_run (c : Nat) (r : List Nat) (h : blL c = true) : (c :: r).drop (runL blL (c :: r)) = r.drop (runL blL r) := by
  rw [runL_cons, if_pos h, List.drop_succ_cons]
theorem lexL_blank (c : Nat) (r : List Nat) (h : blL c = true) : lexL (c :: r) = lexL r := by
  rw [← lexL_eq ((c :: r).length + 1) (c :: r) (by omega), ← lexL_eq ((c :: r).length + 1) r (by simp; omega), lexGo_succ, lexGo_succ, drop_run c r h]
theorem lexL_run : ∀ l : List Nat, lexL l = lexL (l.drop (runL blL l))
  | [] => rfl
  | c :: r => by
    by_cases h : blL c = true
    · rw [lexL_blank c r h, drop_run c r h]
      exact lexL_run r
    · rw [runL_cons, if_neg h, List.drop_zero]
theorem run_head : ∀ l : List Nat, l.drop (runL blL l) = [] ∨ ∃ c r, l.drop (runL blL l) = c :: r ∧ blL c = false
  | [] => .inl rfl
  | c :: r => by
    by_cases h : blL c = true
    · rw [drop_run c r h]
      exact run_head r
    · rw [runL_cons, if_neg h, List.drop_zero]
      exact .inr ⟨c, r, rfl, by simpa using h⟩
theorem lexL_tok (c : Nat) (r : List Nat) (h : blL c = false) : lexL (c :: r) = (match tokL (c :: r) with
    | .error e => .error e
    | .ok (t, k) => preT [t] (lexL ((c :: r).drop k))) := by
  have h0 : runL blL (c :: r) = 0 := by rw [runL_cons, h]; rfl
  rw [← lexL_eq ((c :: r).length + 1) (c :: r) (by omega), lexGo_succ, h0, List.drop_zero]
  simp only
  cases ht : tokL (c :: r) with
  | error e => rfl
  | ok x =>
    obtain ⟨t, k⟩ := x
    obtain ⟨_, h2, h3⟩ := tokL_app (e := 32) rfl [] (c :: r) t k ht
    simp only
    rw [lexL_eq (c :: r).length _ (by rw [List.length_drop]; omega)]
    cases lexL ((c :: r).drop k) <;> rfl
theorem lexL_err (c : Nat) (r : List Nat) (h : blL c = false) (e : Nat) (ht : tokL (c :: r) = .error e) : lexL (c :: r) = .error e := by
  rw [lexL_tok c r h, ht]
theorem lexL_ok (c : Nat) (r : List Nat) (h : blL c = false) (t : Tk) (k : Nat) (ht : tokL (c :: r) = .ok (t, k)) : lexL (c :: r) = preT [t] (lexL ((c :: r).drop k)) := by
  rw [lexL_tok c r h, ht]
theorem preT_preT (ts us : List Tk) (x : Except Nat (List Tk)) : preT ts (preT us x) = preT (ts ++ us) x := by
  cases x with
  | error e => rfl
  | ok y => simp [preT, List.append_assoc]
/-- the tokens of a text, or the error's number -/
def toksE (l : List Nat) : Except Nat (List Tk) := if l.length > 4000 then .error 1 else lexL l
/-- a token is right: it can stand in memory -/
def TkR (t : Tk) : Prop := t.kind ≤ 5 ∧ t.num ≤ 9223372036854775807 ∧ t.scale ≤ 14 ∧ t.text.length ≤ 200 ∧ ∀ x ∈ t.text, x < 256
theorem textL_bytes : ∀ (n : Nat) (l : List Nat) (x : List Nat × Nat), l.length ≤ n → textL l = some x → ∀ y ∈ x.1, y ∈ l ∨ y = 39
  | 0, l, x, hn, h => by
    have : l = [] := List.length_eq_zero_iff.1 (by omega)
    subst this
    simp [textL] at h
  | n + 1, [], x, hn, h => by simp [textL] at h
  | n + 1, c :: r, x, hn, h => by
    have hl : r.length ≤ n := by simp at hn; omega
    by_cases hc : c = 39
    · subst hc
      cases r with
      | nil =>
        rw [textL_end (fun d t e => by cases e)] at h
        injection h with h
        subst h
        intro y hy
        simp at hy
      | cons d r' =>
        by_cases hd : d = 39
        · subst hd
          rw [textL_two] at h
          cases hx : textL r' with
          | none => rw [hx] at h; simp at h
          | some z =>
            rw [hx] at h
            simp only [Option.map_some, Option.some.injEq] at h
            subst h
            intro y hy
            rcases List.mem_cons.1 hy with e | e
            · exact .inr e
            · rcases textL_bytes n r' z (by simp at hl; omega) hx y e with g | g
              · exact .inl (List.mem_cons_of_mem _ (List.mem_cons_of_mem _ g))
              · exact .inr g
        · rw [textL_end (fun d' t e => by injection e with e1 e2; rw [← e1]; exact hd)] at h
          injection h with h
          subst h
          intro y hy
          simp at hy
    · rw [textL_q r hc] at h
      cases hx : textL r with
      | none => rw [hx] at h; simp at h
      | some z =>
        rw [hx] at h
        simp only [Option.map_some, Option.some.injEq] at h
        subst h
        intro y hy
        rcases List.mem_cons.1 hy with e | e
        · exact .inl (by rw [e]; exact List.mem_cons_self ..)
        · rcases textL_bytes n r z hl hx y e with g | g
          · exact .inl (List.mem_cons_of_mem _ g)
          · exact .inr g
theorem low_lt {x : Nat} (h : x < 256) : lowL x < 256 := by
  unfold lowL cpL
  split
  · next q =>
    simp only [Bool.and_eq_true, decide_eq_true_eq] at q
    omega
  · exact h
theorem signL_le2 (l : List Nat) : signL l ≤ 2 := by
  unfold signL
  cases l with
  | nil => simp
  | cons c r =>
    simp only
    split
    · split
      · simp
      · split <;> simp
    · split
      · simp
      · split <;> simp
theorem tokL_right (l : List Nat) (hl : ∀ x ∈ l, x < 256) (t : Tk) (k : Nat) (h : tokL l = .ok (t, k)) : TkR t := by
  cases l with
  | nil => simp [tokL] at h
  | cons c r =>
    rw [tokL_cons] at h
    rw [tokC_eq] at h
    split at h
    · next q1 =>
      split at h
      · cases h
      · next q2 =>
        injection h with h
        injection h with h1 h2
        subst h1
        refine ⟨by simp, by simp, by simp, ?_, fun x hx => ?_⟩
        · simp only [List.length_map, List.length_take]
          omega
        · obtain ⟨y, hy, rfl⟩ := List.mem_map.1 hx
          exact low_lt (hl y (List.mem_of_mem_take hy))
    · next q1 =>
      split at h
      · next q2 =>
        have hg := runL_in (f := dgL) (c :: r)
        generalize fracL ((c :: r).drop (runL dgL (c :: r))) = cnd at h
        cases cnd with
        | true =>
          rw [if_pos rfl] at h
          split at h
          · cases h
          · next q4 =>
            injection h with h
            injection h with h1 h2
            subst h1
            have hgl := runL_le dgL (c :: r)
            have hfl := runL_le dgL ((c :: r).drop (runL dgL (c :: r) + 1))
            have hf := runL_in (f := dgL) ((c :: r).drop (runL dgL (c :: r) + 1))
            have hg0 : 0 < runL dgL (c :: r) := by rw [runL_cons, if_pos q2]; omega
            have hlt := decL_lt ((c :: r).take (runL dgL (c :: r)) ++ ((c :: r).drop (runL dgL (c :: r) + 1)).take (runL dgL ((c :: r).drop (runL dgL (c :: r) + 1)))) (fun x hx => by
              rcases List.mem_append.1 hx with g | g
              · exact hg x g
              · exact hf x g)
            have hle : ((c :: r).take (runL dgL (c :: r)) ++ ((c :: r).drop (runL dgL (c :: r) + 1)).take (runL dgL ((c :: r).drop (runL dgL (c :: r) + 1)))).length ≤ 15 := by
              rw [List.length_append, List.length_take, List.length_take]
              omega
            have h15 := Nat.lt_of_lt_of_le hlt (Nat.pow_le_pow_right (by omega : 0 < 10) hle)
            refine ⟨by simp, ?_, ?_, by simp, fun x hx => by simp at hx⟩
            · show decL _ ≤ _
              generalize decL ((c :: r).take (runL dgL (c :: r)) ++ ((c :: r).drop (runL dgL (c :: r) + 1)).take (runL dgL ((c :: r).drop (runL dgL (c :: r) + 1)))) = n at h15
              omega
            · show runL dgL ((c :: r).drop (runL dgL (c :: r) + 1)) ≤ 14
              omega
        | false =>
          rw [if_neg (by decide)] at h
          split at h
          · cases h
          · next q4 =>
            injection h with h
            injection h with h1 h2
            subst h1
            refine ⟨by simp, ?_, by simp, by simp, fun x hx => by simp at hx⟩
            show decL _ ≤ _
            omega
      · next q2 =>
        split at h
        · next q3 =>
          split at h
          · cases h
          · next x hx =>
            split at h
            · cases h
            · next q4 =>
              injection h with h
              injection h with h1 h2
              subst h1
              refine ⟨by simp, by simp, by simp, by simpa using q4, fun y hy => ?_⟩
              rcases textL_bytes _ r x (Nat.le_refl _) hx y hy with g | g
              · exact hl y (List.mem_cons_of_mem _ g)
              · omega
        · next q3 =>
          split at h
          · cases h
          · next q4 =>
            injection h with h
            injection h with h1 h2
            subst h1
            refine ⟨by simp, by simp, by simp, ?_, fun x hx => hl x (List.mem_of_mem_take hx)⟩
            have := signL_le2 (c :: r)
            simp only [List.length_take]
            omega

end Go.Proofs.YtlhipnklljjahaaDoor
