/-
  What comes behind all that begin with some bytes: the document's answer (haspref05.Behind), and that it is the least.
  Conditions: the row lies in memory.
-/
import Derived.Test.YtpknoclnmhomiabByt2
import Derived.Laws.OwnMore
namespace Go.Proofs.Ytpknoclnmhomiab
open Go.RowKit Go.Joins Go.ChangeShapes Go.WideShapes
set_option linter.unusedVariables false

/-- the place behind the last byte that isn't 255 -/
def stripN (l : List Nat) : Nat → Nat
  | 0 => 0
  | n + 1 => if l[n]? = some 255 then stripN l n else n + 1
theorem stripN_succ (l : List Nat) (n : Nat) : stripN l (n + 1) = if l[n]? = some 255 then stripN l n else n + 1 := rfl
theorem stripN_le (l : List Nat) : ∀ n, stripN l n ≤ n
  | 0 => Nat.le_refl _
  | n + 1 => by
    unfold stripN
    have := stripN_le l n
    split <;> omega
theorem stripN_at (l : List Nat) : ∀ n k, stripN l n = k + 1 → l[k]? ≠ some 255
  | 0, k, h => by simp [stripN] at h
  | n + 1, k, h => by
    unfold stripN at h
    split at h
    · exact stripN_at l n k h
    · obtain rfl : n = k := by omega
      assumption
theorem stripN_255 (l : List Nat) : ∀ n i, stripN l n ≤ i → i < n → l[i]? = some 255
  | 0, i, _, h => absurd h (by omega)
  | n + 1, i, h1, h2 => by
    unfold stripN at h1
    split at h1
    · by_cases c : i = n
      · subst c; assumption
      · exact stripN_255 l n i h1 (by omega)
    · omega

/-- the least list behind all that begin so (empty: there is none) -/
def behB (l : List Nat) : List Nat :=
  let n := stripN l l.length
  if n = 0 then [] else l.take (n - 1) ++ [(l[n - 1]?).getD 0 + 1]
theorem behB_of {l : List Nat} {k x : Nat} (h : stripN l l.length = k + 1) (hx : l[k]? = some x) : behB l = l.take k ++ [x + 1] := by
  unfold behB
  simp only [h]
  rw [if_neg (by omega), Nat.add_sub_cancel, hx]
  rfl
theorem behB_no {l : List Nat} (h : stripN l l.length = 0) : behB l = [] := by
  unfold behB
  simp only [h]
  rfl
theorem behB_lt {l : List Nat} (hl : ∀ x ∈ l, x < 256) : ∀ x ∈ behB l, x < 256 := by
  intro x hx
  rcases h : stripN l l.length with _ | k
  · rw [behB_no h] at hx; cases hx
  · have hk := stripN_le l l.length
    have hn := stripN_at l _ k h
    have e : l[k]? = some (l[k]'(by omega)) := List.getElem?_eq_getElem _
    rw [behB_of h e] at hx
    rcases List.mem_append.1 hx with hx | hx
    · exact hl x (List.mem_of_mem_take hx)
    · rw [List.mem_singleton] at hx
      have h2 := hl (l[k]'(by omega)) (List.getElem_mem _)
      have h3 : l[k]'(by omega) ≠ 255 := fun q => hn (by rw [e, q])
      omega
theorem behB_le (l : List Nat) : (behB l).length ≤ l.length := by
  rcases h : stripN l l.length with _ | k
  · rw [behB_no h]; simp
  · have hk := stripN_le l l.length
    have e : l[k]? = some (l[k]'(by omega)) := List.getElem?_eq_getElem _
    rw [behB_of h e]
    simp
    omega

theorem set_last {l : List Nat} {j x y : Nat} (hx : l[j]? = some x) : (bcells (l.take (j + 1))).set j (.int .u8 (y : Int)) = bcells (l.take j ++ [y]) := by
  have hl : (l.take j).length = j := by
    have := (List.getElem?_eq_some_iff.1 hx).1
    rw [List.length_take]; omega
  have e : l.take (j + 1) = l.take j ++ [x] := by rw [List.take_add_one, hx]; rfl
  rw [e, bcells_app, bcells_app, List.set_append_right _ _ (by rw [bcells_length, hl]; exact Nat.le_refl _), bcells_length, hl, Nat.sub_self]
  rfl

end Go.Proofs.Ytpknoclnmhomiab
