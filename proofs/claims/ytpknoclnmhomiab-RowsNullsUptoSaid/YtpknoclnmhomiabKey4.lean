/-
  Contract over the translation: a text out of a key's bytes (haspref05.text).
  Conditions: the bytes lie in memory.
-/
import Derived.Test.YtpknoclnmhomiabKey3
namespace Go.Proofs.Ytpknoclnmhomiab
open Go.RowKit Go.Joins Go.ChangeShapes Go.WideShapes
set_option linter.unusedVariables false

def tcons (c : Nat) (x : Int × List Nat × List Nat) : Int × List Nat × List Nat := if x.1 = 0 then (0, c :: x.2.1, x.2.2) else (x.1, [], [])
/-- a text read out of bytes, n of its bytes read before: the error, its bytes, what is left -/
def txt : Nat → List Nat → Int × List Nat × List Nat
  | _, [] => (3, [], [])
  | n, [c] => if c = 0 then (3, [], []) else if n = 200 then (1, [], []) else tcons c (3, [], [])
  | n, c :: x :: q => if c = 0 then (if x = 1 then (0, [], q) else if x ≠ 255 then (2, [], []) else if n = 200 then (1, [], []) else tcons 0 (txt (n + 1) q)) else if n = 200 then (1, [], []) else tcons c (txt (n + 1) (x :: q))

theorem txt_nil (n : Nat) : txt n [] = (3, [], []) := by unfold txt; rfl
theorem txt_c {n c : Nat} {r : List Nat} (hc : c ≠ 0) : txt n (c :: r) = if n = 200 then (1, [], []) else tcons c (txt (n + 1) r) := by
  cases r with
  | nil =>
    conv => lhs; rw [txt]
    rw [if_neg hc, txt_nil]
  | cons x q =>
    conv => lhs; rw [txt]
    rw [if_neg hc]
theorem txt_01 {n : Nat} : txt n [0] = (3, [], []) := by
  conv => lhs; rw [txt]
  rw [if_pos rfl]
theorem txt_0 {n x : Nat} {q : List Nat} : txt n (0 :: x :: q) = if x = 1 then (0, [], q) else if x ≠ 255 then (2, [], []) else if n = 200 then (1, [], []) else tcons 0 (txt (n + 1) q) := by
  conv => lhs; rw [txt]
  rw [if_pos rfl]

/-- with bytes ahead -/
def tapp (acc : List Nat) (x : Int × List Nat × List Nat) : Int × List Nat × List Nat := if x.1 = 0 then (0, acc ++ x.2.1, x.2.2) else (x.1, [], [])
theorem tapp_nil (n : Nat) (l : List Nat) : tapp [] (txt n l) = txt n l := by
  have h : ∀ x : Int × List Nat × List Nat, (x.1 ≠ 0 → x.2 = ([], [])) → tapp [] x = x := by
    intro x hx
    unfold tapp
    by_cases c : x.1 = 0
    · rw [if_pos c, List.nil_append, ← c]
    · rw [if_neg c]
      have := hx c
      rcases x with ⟨a, b⟩
      simp only at this ⊢
      rw [this]
  refine h _ ?_
  have ht : ∀ c x, (tcons c x).1 ≠ 0 → (tcons c x).2 = ([], []) := by
    intro c x
    unfold tcons
    split
    · intro h; exact absurd rfl h
    · intro _; rfl
  cases l with
  | nil => intro _; rw [txt_nil]
  | cons c r =>
    by_cases hc : c = 0
    · subst hc
      cases r with
      | nil => intro _; rw [txt_01]
      | cons x q =>
        rw [txt_0]
        repeat' split
        all_goals first | (intro _; rfl) | exact ht _ _ | (intro h; exact absurd rfl h)
    · rw [txt_c hc]
      split
      · intro _; rfl
      · exact ht _ _
theorem tapp_cons (acc : List Nat) (c : Nat) (x : Int × List Nat × List Nat) : tapp acc (tcons c x) = tapp (acc ++ [c]) x := by
  unfold tapp tcons
  by_cases h : x.1 = 0
  · rw [if_pos h, if_pos h, if_pos rfl, List.append_assoc]; rfl
  · rw [if_neg h, if_neg h, if_neg h]

def TxtOk (W : World) (l : List Nat) (X : Int × List Nat × List Nat) (e : Ending) (w' : World) : Prop :=
  ∃ s p, e = .returned (.tuple #[.string s, .int .i64 (p : Nat), .int .i64 X.1]) ∧ (X.1 = 0 → s = strB X.2.1 ∧ p ≤ l.length ∧ X.2.2 = l.drop p) ∧ Below W.heap.size W w'

end Go.Proofs.Ytpknoclnmhomiab
