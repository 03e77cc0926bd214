/-
  The document's changing that is covered (haspref22): a contract over the translation.
  Conditions: the row lies in memory.
-/
import Derived.Test.YtgndbhgpdcelpaaDoorCr3
import Derived.Test.YtgndbhgpdcelpaaDoorCv15
import Derived.Deep.QuietTactic
import Derived.BigQuiet
namespace Go.Proofs.YtgndbhgpdcelpaaDoor
set_option maxRecDepth 100000
open Go.RowKit Go.Joins Go.ChangeShapes Go.WideShapes
set_option linter.unusedVariables false
set_option linter.unusedSimpArgs false

/-- where the last guard stands; -1: nowhere -/
def lastG (l : List Ins) : Int := (l.length : Int) - 1 - ((l.reverse.takeWhile fun x => !(x.op == 9)).length : Nat)
theorem lastG_snoc (l : List Ins) (x : Ins) : lastG (l ++ [x]) = if x.op == 9 then (l.length : Int) else lastG l := by
  unfold lastG
  rw [List.reverse_append]
  show ((l ++ [x]).length : Int) - 1 - (((x :: l.reverse).takeWhile fun x => !(x.op == 9)).length : Nat) = _
  rw [List.length_append]
  cases h : x.op == 9 with
  | true => rw [List.takeWhile_cons_of_neg (by rw [h]; decide)]; simp
  | false => rw [List.takeWhile_cons_of_pos (by rw [h]; rfl)]; simp; omega
/-- does an instruction stand rightly among the changes? -/
def okC (te : Bool) (l : List Ins) (k : Nat) (x : Ins) : Bool :=
  !(te && (x.op == 6 || x.op == 7 || x.op == 9 || x.op == 10)) && !(x.op == 10 && (decide (lastG l < 0) || lastG l != (k : Int) - 1)) && !((x.op == 6 || x.op == 7) && decide (0 < cnL [9] l))
def okAll (te : Bool) (q : List Ins) : Bool := (List.range q.length).all fun k => match q[k]? with | some x => okC te (q.take k) k x | none => true
theorem ok_no {te : Bool} {q : List Ins} {k : Nat} {x : Ins} (hx : q[k]? = some x) (h : okC te (q.take k) k x = false) : okAll te q = false := by
  unfold okAll
  rw [List.all_eq_false]
  exact ⟨k, List.mem_range.2 (List.getElem?_eq_some_iff.1 hx).1, by rw [hx]; simp [h]⟩
theorem ok_yes {te : Bool} {q : List Ins} (h : ∀ (k : Nat) (x : Ins), k < q.length → q[k]? = some x → okC te (q.take k) k x = true) : okAll te q = true := by
  unfold okAll
  rw [List.all_eq_true]
  intro k hk
  have hk' := List.mem_range.1 hk
  rw [List.getElem?_eq_getElem hk']
  exact h k _ hk' (List.getElem?_eq_getElem hk')
def chB (tb : ByteArray) (q : List Ins) : Bool := okAll tb.toList.isEmpty q && (tb.toList.isEmpty || (cnL [9] q == 1 && cnL [10] q == 1 && cvI (mdL tb q 0) 2 && pkB tb q))
theorem cn_snoc1 (o : Int) (x : Ins) (l : List Ins) : cnL [o] (l ++ [x]) = if x.op == o then cnL [o] l + 1 else cnL [o] l := by
  rw [cnL_snoc]
  simp

end Go.Proofs.YtgndbhgpdcelpaaDoor
