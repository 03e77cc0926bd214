/-
  Tokens of two texts with a blank between them: those of the one, then those of the other (layer 12).
  Conditions: none.
-/
import Derived.Test.YtlhipnklljjahaaDoorLx5
namespace Go.Proofs.YtlhipnklljjahaaDoor
set_option maxRecDepth 100000
open Go.RowKit Go.Joins Go.ChangeShapes Go.WideShapes
set_option linter.unusedVariables false
set_option linter.unusedSimpArgs false

theorem lexGo_succ (n : Nat) (l : List Nat) : lexGo (n + 1) l = (match l.drop (runL blL l) with
    | [] => .ok []
    | c :: r => match tokL (c :: r) with
      | .error er => .error er
      | .ok (t, k) => match lexGo n ((c :: r).drop k) with
        | .error er => .error er
        | .ok ts => .ok (t :: ts)) := rfl
/-- once there is fuel enough, more of it changes nothing -/
theorem lexGo_fuel : ∀ (n m : Nat) (l : List Nat), l.length < n → l.length < m → lexGo n l = lexGo m l
  | 0, _, l, h, _ => by omega
  | _ + 1, 0, l, _, h => by omega
  | n + 1, m + 1, l, hn, hm => by
    rw [lexGo_succ, lexGo_succ]
    have hl : (l.drop (runL blL l)).length ≤ l.length := by rw [List.length_drop]; omega
    generalize l.drop (runL blL l) = d at hl ⊢
    cases d with
    | nil => rfl
    | cons c r =>
      simp only
      cases ht : tokL (c :: r) with
      | error er => rfl
      | ok x =>
        obtain ⟨t, k⟩ := x
        obtain ⟨_, h2, h3⟩ := tokL_app (e := 32) rfl [] (c :: r) t k ht
        have hd : ((c :: r).drop k).length < (c :: r).length := by rw [List.length_drop]; omega
        simp only
        rw [lexGo_fuel n m ((c :: r).drop k) (by omega) (by omega)]
theorem lexL_eq (n : Nat) (l : List Nat) (h : l.length < n) : lexGo n l = lexL l := lexGo_fuel n (l.length + 1) l h (by omega)

theorem blank_all {e : Nat} (he : blL e = true) (b : List Nat) : ∀ l, l.drop (runL blL l) = [] → (l ++ e :: b).drop (runL blL (l ++ e :: b)) = b.drop (runL blL b)
  | [], _ => by
    show (e :: b).drop (runL blL (e :: b)) = _
    rw [runL_cons, if_pos he]; rfl
  | c :: r, h => by
    rw [runL_cons] at h
    show (c :: (r ++ e :: b)).drop (runL blL (c :: (r ++ e :: b))) = _
    rw [runL_cons]
    cases hc : blL c with
    | false => rw [hc] at h; simp at h
    | true =>
      rw [hc, if_pos rfl] at h
      rw [if_pos rfl, List.drop_succ_cons]
      rw [List.drop_succ_cons] at h
      exact blank_all he b r h
theorem blank_some {e : Nat} (he : blL e = true) (b : List Nat) : ∀ (l : List Nat) (c : Nat) (s : List Nat), l.drop (runL blL l) = c :: s → (l ++ e :: b).drop (runL blL (l ++ e :: b)) = (c :: s) ++ e :: b
  | [], c, s, h => by simp at h
  | c :: r, d, s, h => by
    rw [runL_cons] at h
    show (c :: (r ++ e :: b)).drop (runL blL (c :: (r ++ e :: b))) = _
    rw [runL_cons]
    cases hc : blL c with
    | false =>
      rw [hc, if_neg (by decide), List.drop_zero] at h
      rw [if_neg (by decide), List.drop_zero, ← h]; rfl
    | true =>
      rw [hc, if_pos rfl, List.drop_succ_cons] at h
      rw [if_pos rfl, List.drop_succ_cons]
      exact blank_some he b r d s h
/-- two texts with a blank between them -/
theorem lexGo_join {e : Nat} (he : blL e = true) (b : List Nat) : ∀ (n m : Nat) (l : List Nat) (ts : List Tk), l.length < n → (l ++ e :: b).length < m → lexGo n l = .ok ts →
    lexGo m (l ++ e :: b) = (match lexL b with | .error er => .error er | .ok us => .ok (ts ++ us))
  | 0, _, l, ts, h, _, _ => by omega
  | _ + 1, 0, l, ts, _, h, _ => by omega
  | n + 1, m + 1, l, ts, hn, hm, h => by
    rw [lexGo_succ] at h
    cases hd : l.drop (runL blL l) with
    | nil =>
      rw [hd] at h
      simp only [Except.ok.injEq] at h
      subst h
      have hb := blank_all he b l hd
      have : b.length < m + 1 := by rw [List.length_append, List.length_cons] at hm; omega
      rw [← lexL_eq (m + 1) b this, lexGo_succ, lexGo_succ, hb]
      generalize b.drop (runL blL b) = x
      cases x with
      | nil => rfl
      | cons c r =>
        simp only
        cases tokL (c :: r) with
        | error er => rfl
        | ok y =>
          simp only
          cases lexGo m ((c :: r).drop y.2) <;> rfl
    | cons c s =>
      rw [hd] at h
      have hb := blank_some he b l c s hd
      rw [lexGo_succ, hb]
      simp only at h
      have hl : (c :: s).length ≤ l.length := by rw [← hd, List.length_drop]; omega
      cases ht : tokL (c :: s) with
      | error er => rw [ht] at h; simp at h
      | ok x =>
        obtain ⟨t, k⟩ := x
        obtain ⟨h1, h2, h3⟩ := tokL_app he b (c :: s) t k ht
        rw [ht] at h
        simp only at h
        cases hg : lexGo n ((c :: s).drop k) with
        | error er => rw [hg] at h; simp at h
        | ok us =>
          rw [hg] at h
          simp only [Except.ok.injEq] at h
          subst h
          have hk : ((c :: s).drop k).length < (c :: s).length := by rw [List.length_drop]; omega
          have ih := lexGo_join he b n m ((c :: s).drop k) us (by omega) (by
            rw [List.length_append] at hm ⊢
            omega) hg
          have e0 : (match (c :: s) ++ e :: b with
            | [] => Except.ok []
            | c :: r => match tokL (c :: r) with
              | .error er => .error er
              | .ok (t, k) => match lexGo m ((c :: r).drop k) with
                | .error er => .error er
                | .ok ts => .ok (t :: ts)) = (match tokL ((c :: s) ++ e :: b) with
            | .error er => Except.error (ε := Nat) (α := List Tk) er
            | .ok (t, k) => match lexGo m (((c :: s) ++ e :: b).drop k) with
              | .error er => .error er
              | .ok ts => .ok (t :: ts)) := rfl
          rw [e0]
          rw [h1]
          simp only
          rw [drop_app (c :: s) (e :: b) k h2, ih]
          cases lexL b <;> rfl
theorem lexL_join {e : Nat} (he : blL e = true) (a b : List Nat) (ts : List Tk) (h : lexL a = .ok ts) : lexL (a ++ e :: b) = (match lexL b with | .error er => .error er | .ok us => .ok (ts ++ us)) :=
  lexGo_join he b (a.length + 1) _ a ts (by omega) (by omega) h

end Go.Proofs.YtlhipnklljjahaaDoor
