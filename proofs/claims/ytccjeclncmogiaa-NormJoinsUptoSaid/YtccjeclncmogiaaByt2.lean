/-
  Rows of bytes that lie in memory; contracts over the translation: their order, whether one begins with another, what comes behind (haspref05's Order, Begins, Behind).
  Conditions: the rows lie in memory.
-/
import Derived.Test.YtccjeclncmogiaaByt1
import Derived.Test.YtccjeclncmogiaaPlain1
import Derived.Deep.DeepCutAuto
import Derived.Deep.QuietTactic
import Derived.BigQuiet
namespace Go.Proofs.Ytccjeclncmogiaa
open Go.RowKit Go.Joins Go.ChangeShapes Go.WideShapes
set_option linter.unusedVariables false

/-- a row of bytes in memory -/
structure IsB (w : World) (b off : Nat) (l : List Nat) : Prop where
  hb : 0 < l.length → b < w.heap.size
  c : ∀ (i x : Nat), l[i]? = some x → w.cell? ⟨b, off + i, none⟩ = some (.int .u8 (x : Int))
  lt : ∀ x ∈ l, x < 256
theorem IsB.below {w w' : World} {b off : Nat} {l : List Nat} (h : IsB w b off l) (hw : Below w.heap.size w w') : IsB w' b off l := by
  obtain ⟨hc, _⟩ := bcell hw
  refine ⟨fun hl => Nat.lt_of_lt_of_le (h.hb hl) hw.size, fun i x hx => ?_, h.lt⟩
  have hl : 0 < l.length := by have := (List.getElem?_eq_some_iff.1 hx).1; omega
  rw [hc _ _ (h.hb hl)]
  exact h.c i x hx
theorem OwB.isB {w : World} {base : Nat} {v : Value} {l : List Nat} (h : OwB w base v l) (hl : ∀ x ∈ l, x < 256) : ∃ g cap, v = .slice (some ⟨g, 0, none⟩) l.length cap ∧ IsB w g 0 l ∧ base ≤ g := by
  obtain ⟨g, cap, e, hb, hg, hc⟩ := h.form
  refine ⟨g, cap, e, ⟨fun _ => hg, fun i x hx => ?_, hl⟩, hb⟩
  rw [Nat.zero_add]
  refine hc i _ ?_
  simp only [bcells, List.getElem?_map, hx, Option.map_some]
/-- a row that has a byte shows its address -/
theorem IsB.drop {w : World} {b off : Nat} {l : List Nat} (h : IsB w b off l) (k : Nat) : IsB w b (off + k) (l.drop k) :=
  ⟨fun hl => h.hb (by rw [List.length_drop] at hl; omega), fun i x hx => by rw [List.getElem?_drop] at hx; rw [Nat.add_assoc]; exact h.c _ _ hx, fun x hx => h.lt x (List.mem_of_mem_drop hx)⟩
theorem IsB.take {w : World} {b off : Nat} {l : List Nat} (h : IsB w b off l) (k : Nat) : IsB w b off (l.take k) :=
  ⟨fun hl => h.hb (by rw [List.length_take] at hl; omega), fun i x hx => h.c i x (by rw [List.getElem?_take] at hx; split at hx; exact hx; cases hx), fun x hx => h.lt x (List.mem_of_mem_take hx)⟩

/-- which row of bytes comes first -/
def ordB : List Nat → List Nat → Int
  | [], [] => 0
  | [], _ :: _ => -1
  | _ :: _, [] => 1
  | a :: l, b :: r => if a < b then -1 else if b < a then 1 else ordB l r
theorem ordB_step {l r : List Nat} {k x y : Nat} (hx : l[k]? = some x) (hy : r[k]? = some y) : ordB (l.drop k) (r.drop k) = if x < y then -1 else if y < x then 1 else ordB (l.drop (k + 1)) (r.drop (k + 1)) := by
  obtain ⟨h1, e1⟩ := List.getElem?_eq_some_iff.1 hx
  obtain ⟨h2, e2⟩ := List.getElem?_eq_some_iff.1 hy
  rw [List.drop_eq_getElem_cons h1, List.drop_eq_getElem_cons h2, e1, e2]
  rfl
theorem ordB_l {l r : List Nat} {k : Nat} (h : k = l.length) (h2 : k ≤ r.length) : ordB (l.drop k) (r.drop k) = if l.length < r.length then -1 else 0 := by
  subst h
  rw [List.drop_length]
  by_cases c : l.length < r.length
  · rw [List.drop_eq_getElem_cons c, if_pos c]; rfl
  · rw [List.drop_eq_nil_of_le (by omega), if_neg c]; rfl
theorem ordB_r {l r : List Nat} {k : Nat} (h : k = r.length) (h2 : k < l.length) : ordB (l.drop k) (r.drop k) = 1 := by
  subst h
  rw [List.drop_length, List.drop_eq_getElem_cons h2]
  rfl

/-- does a row begin with another one? -/
theorem begins_take {l r : List Nat} (h : r.length ≤ l.length) : l.take r.length = r ↔ ∀ k, k < r.length → l[k]? = r[k]? := by
  constructor
  · intro e k hk
    rw [← e, List.getElem?_take, if_pos hk]
  · intro e
    apply List.ext_getElem?
    intro k
    rw [List.getElem?_take]
    by_cases c : k < r.length
    · rw [if_pos c, e k c]
    · rw [if_neg c, List.getElem?_eq_none (by omega)]

end Go.Proofs.Ytccjeclncmogiaa
