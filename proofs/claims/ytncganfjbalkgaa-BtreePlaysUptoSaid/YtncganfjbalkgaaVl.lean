/-
  Lists of values that the call has made: as lists of (kind, number, text).
  Conditions: none.
-/
import Derived.Test.YtncganfjbalkgaaByt1
import Derived.Test.YtncganfjbalkgaaVal10
namespace Go.Proofs.Ytncganfjbalkgaa
open Go.RowKit Go.Joins Go.ChangeShapes Go.WideShapes
set_option linter.unusedVariables false

abbrev Em : ByteArray := ⟨#[]⟩
/-- a value: its kind, number, text -/
abbrev Vt := Int × Int × ByteArray
def vlcells : List Vt → List Value
  | [] => []
  | v :: r => [.int .i64 v.1, .int .i64 v.2.1, .string v.2.2] ++ vlcells r
theorem vlcells_length (l : List Vt) : (vlcells l).length = l.length * 3 := by
  induction l with
  | nil => rfl
  | cons v r ih => simp [vlcells, ih]; omega
theorem vlcells_app (l r : List Vt) : vlcells (l ++ r) = vlcells l ++ vlcells r := by
  induction l with
  | nil => rfl
  | cons v l ih => simp only [List.cons_append, vlcells, ih, List.append_assoc]
theorem vlcells_one (l : List Vt) : ∀ u ∈ vlcells l, u.oneCell' = true := by
  induction l with
  | nil => intro u hu; cases hu
  | cons v l ih =>
    intro u hu
    unfold vlcells at hu
    rcases List.mem_append.1 hu with h | h
    · simp only [List.mem_cons, List.not_mem_nil, or_false] at h
      rcases h with rfl | rfl | rfl <;> rfl
    · exact ih u h
theorem vlcells_at (l : List Vt) (i : Nat) (v : Vt) (h : l[i]? = some v) : (vlcells l)[i * 3]? = some (.int .i64 v.1) ∧ (vlcells l)[i * 3 + 1]? = some (.int .i64 v.2.1) ∧ (vlcells l)[i * 3 + 2]? = some (.string v.2.2) := by
  induction l generalizing i with
  | nil => simp at h
  | cons u l ih =>
    unfold vlcells
    cases i with
    | zero =>
      simp only [List.getElem?_cons_zero, Option.some.injEq] at h
      subst h
      exact ⟨rfl, rfl, rfl⟩
    | succ i =>
      rw [List.getElem?_cons_succ] at h
      obtain ⟨h1, h2, h3⟩ := ih i h
      have e : ∀ j, ([Value.int .i64 u.1, Value.int .i64 u.2.1, Value.string u.2.2] ++ vlcells l)[(i + 1) * 3 + j]? = (vlcells l)[i * 3 + j]? := by
        intro j
        rw [List.getElem?_append_right (by simp; omega)]
        congr 1
        simp
        omega
      exact ⟨(e 0).trans h1, (e 1).trans h2, (e 2).trans h3⟩

def kF (l : List Vt) (i : Nat) : Int := (l.getD i (0, 0, Em)).1
def nF (l : List Vt) (i : Nat) : Int := (l.getD i (0, 0, Em)).2.1
def sF (l : List Vt) (i : Nat) : ByteArray := (l.getD i (0, 0, Em)).2.2
def bval (w : World) (g o : Nat) : Value := (w.cell? ⟨g, o, none⟩).getD (.int .i64 0)
theorem rowBelow {w w' : World} {base : Nat} {e : TypeId} {size : Nat} {v : Value} {n : Nat} {xs : List Value} (h : w.ownsRow base e size v n xs) (hb : Below w.heap.size w w') : w'.ownsRow base e size v n xs :=
  h.kept (row := none) ⟨hb.os, hb.tape, hb.output, hb.size, fun i hi _ => hb.block i hi⟩ (by cases v.ownBlock <;> simp)
/-- on from a world that keeps what was there -/
theorem stepB {w0 w1 w2 : World} (h : Below w0.heap.size w0 w1) (hb : Below w1.heap.size w1 w2) : Below w0.heap.size w0 w2 := h.trans (hb.mono h.size)

end Go.Proofs.Ytncganfjbalkgaa
