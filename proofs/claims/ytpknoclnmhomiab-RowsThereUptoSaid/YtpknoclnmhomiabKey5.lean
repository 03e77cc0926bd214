/-
  A key's values by the document; contract over the translation: haspref05.Decode.
  Conditions: the bytes lie in memory.
-/
import Derived.Test.YtpknoclnmhomiabKey4
import Derived.Test.YtpknoclnmhomiabVl
import Derived.Deep.RegionHeld3
namespace Go.Proofs.Ytpknoclnmhomiab
open Go.RowKit Go.Joins Go.ChangeShapes Go.WideShapes
set_option linter.unusedVariables false

def nB (c : Nat) : Nat := if c = 2 then 1 else 8
/-- the first value of bytes: the error, the value, what is left -/
def decOne : List Nat → Int × Vt × List Nat
  | [] => (3, (0, 0, Em), [])
  | c :: r =>
    if c < 1 ∨ 5 < c then (50, (0, 0, Em), []) else if c = 1 then (0, (0, 0, Em), r) else
    if c = 5 then (if (txt 0 r).1 = 0 then (0, (4, 0, strB (txt 0 r).2.1), (txt 0 r).2.2) else ((txt 0 r).1, (0, 0, Em), [])) else
    if r.length < nB c then (3, (0, 0, Em), []) else
    if (numK ((c : Int) - 1) (numU (r.take (nB c)))).2 = 0 then (0, ((c : Int) - 1, (numK ((c : Int) - 1) (numU (r.take (nB c)))).1, Em), r.drop (nB c)) else ((numK ((c : Int) - 1) (numU (r.take (nB c)))).2, (0, 0, Em), [])

theorem decOne_cons (c : Nat) (r : List Nat) : decOne (c :: r) = if c < 1 ∨ 5 < c then (50, (0, 0, Em), []) else if c = 1 then (0, (0, 0, Em), r) else
    if c = 5 then (if (txt 0 r).1 = 0 then (0, (4, 0, strB (txt 0 r).2.1), (txt 0 r).2.2) else ((txt 0 r).1, (0, 0, Em), [])) else
    if r.length < nB c then (3, (0, 0, Em), []) else
    if (numK ((c : Int) - 1) (numU (r.take (nB c)))).2 = 0 then (0, ((c : Int) - 1, (numK ((c : Int) - 1) (numU (r.take (nB c)))).1, Em), r.drop (nB c)) else ((numK ((c : Int) - 1) (numU (r.take (nB c)))).2, (0, 0, Em), []) := rfl
theorem txt_len : ∀ (l : List Nat) (n : Nat), (txt n l).1 = 0 → (txt n l).2.2.length < l.length
  | [], n, h => by rw [txt_nil] at h; exact absurd h (by decide)
  | c :: r, n, h => by
    by_cases hc : c = 0
    · subst hc
      cases r with
      | nil => rw [txt_01] at h; exact absurd h (by decide)
      | cons x q =>
        rw [txt_0] at h ⊢
        by_cases h1 : x = 1
        · rw [if_pos h1]; simp; omega
        · rw [if_neg h1] at h ⊢
          by_cases h2 : x ≠ 255
          · rw [if_pos h2] at h; exact absurd h (by decide)
          · rw [if_neg h2] at h ⊢
            by_cases h3 : n = 200
            · rw [if_pos h3] at h; exact absurd h (by decide)
            · rw [if_neg h3] at h ⊢
              unfold tcons at h ⊢
              by_cases h4 : (txt (n + 1) q).1 = 0
              · rw [if_pos h4]
                have := txt_len q (n + 1) h4
                simp only [List.length_cons]
                omega
              · rw [if_neg h4] at h; exact absurd h h4
    · rw [txt_c hc] at h ⊢
      by_cases h3 : n = 200
      · rw [if_pos h3] at h; exact absurd h (by decide)
      · rw [if_neg h3] at h ⊢
        unfold tcons at h ⊢
        by_cases h4 : (txt (n + 1) r).1 = 0
        · rw [if_pos h4]
          have := txt_len r (n + 1) h4
          simp only [List.length_cons]
          omega
        · rw [if_neg h4] at h; exact absurd h h4

theorem decOne_len (c : Nat) (r : List Nat) : (decOne (c :: r)).2.2.length ≤ r.length := by
  unfold decOne
  dsimp only
  repeat' split
  all_goals first | (simp; done) | exact Nat.le_refl _ | (exact Nat.le_of_lt (txt_len _ _ (by assumption))) | (rw [List.length_drop]; omega)

def vcons (v : Vt) (x : List Vt × Int) : List Vt × Int := if x.2 = 0 then (v :: x.1, 0) else ([], x.2)
def decF : Nat → List Nat → List Vt × Int
  | 0, _ => ([], 0)
  | _ + 1, [] => ([], 0)
  | n + 1, c :: r => if (decOne (c :: r)).1 = 0 then vcons (decOne (c :: r)).2.1 (decF n (decOne (c :: r)).2.2) else ([], (decOne (c :: r)).1)
/-- the values of bytes, or the error -/
def decK (l : List Nat) : List Vt × Int := decF l.length l
theorem decF_more : ∀ (n m : Nat) (l : List Nat), l.length ≤ n → l.length ≤ m → decF n l = decF m l
  | 0, m, l, h, _ => by
    have : l = [] := List.length_eq_zero_iff.1 (by omega)
    subst this
    cases m <;> rfl
  | n + 1, 0, l, _, h => by
    have : l = [] := List.length_eq_zero_iff.1 (by omega)
    subst this
    rfl
  | n + 1, m + 1, [], _, _ => rfl
  | n + 1, m + 1, c :: r, h1, h2 => by
    have hl := decOne_len c r
    rw [List.length_cons] at h1 h2
    show (if _ then _ else _) = (if _ then _ else _)
    rw [decF_more n m _ (by omega) (by omega)]
theorem decK_nil : decK [] = ([], 0) := rfl
theorem decK_cons (c : Nat) (r : List Nat) : decK (c :: r) = if (decOne (c :: r)).1 = 0 then vcons (decOne (c :: r)).2.1 (decK (decOne (c :: r)).2.2) else ([], (decOne (c :: r)).1) := by
  have hl := decOne_len c r
  unfold decK
  rw [← decF_more r.length (decOne (c :: r)).2.2.length _ (by omega) (Nat.le_refl _)]
  rfl

/-- with values ahead -/
def vapp (acc : List Vt) (x : List Vt × Int) : List Vt × Int := if x.2 = 0 then (acc ++ x.1, 0) else ([], x.2)
theorem vapp_cons (acc : List Vt) (v : Vt) (x : List Vt × Int) : vapp acc (vcons v x) = vapp (acc ++ [v]) x := by
  unfold vapp vcons
  by_cases h : x.2 = 0
  · rw [if_pos h, if_pos h, if_pos rfl, List.append_assoc]; rfl
  · rw [if_neg h, if_neg h, if_neg h]
theorem decK_err (l : List Nat) : (decK l).2 ≠ 0 → (decK l).1 = [] := by
  cases l with
  | nil => intro _; rfl
  | cons c r =>
    rw [decK_cons]
    by_cases h : (decOne (c :: r)).1 = 0
    · rw [if_pos h]
      unfold vcons
      split
      · intro h; exact absurd rfl h
      · intro _; rfl
    · rw [if_neg h]; intro _; rfl
theorem vapp_nil (l : List Nat) : vapp [] (decK l) = decK l := by
  have h := decK_err l
  unfold vapp
  by_cases c : (decK l).2 = 0
  · rw [if_pos c, List.nil_append, ← c]
  · rw [if_neg c]
    have := h c
    rcases hx : decK l with ⟨a, b⟩
    rw [hx] at this
    simp only at this ⊢
    rw [this]

end Go.Proofs.Ytpknoclnmhomiab
