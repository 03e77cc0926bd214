/-
  haspref06.bit: a bit of a row's bytes.
  Conditions: the bytes lie in memory.
-/
import Derived.Test.YtpknoclnmhomiabRow2
import Derived.Test.YtpknoclnmhomiabByt2
import Derived.Test.YtpknoclnmhomiabVl
import Derived.Test.YtpknoclnmhomiabRef2
namespace Go.Proofs.Ytpknoclnmhomiab
open Go.RowKit Go.Joins Go.ChangeShapes Go.WideShapes
set_option linter.unusedVariables false

def bitN (l : List Nat) (i : Nat) : Bool := decide (l.getD (i / 8) 0 / 2 ^ (i % 8) % 2 = 1)
theorem bit_any (b off cap : Nat) (l : List Nat) (i : Nat) (hi : i / 8 < l.length) (hi2 : i ≤ 9223372036854775807) (hm : l.length ≤ maxLen) (w : World) (hA : IsB w b off l) :
    Calls Try.prog 25 #[.slice (some ⟨b, off, none⟩) l.length cap, .int .i64 (i : Nat)] w fun e w' => e = .returned (.bool (bitN l i)) ∧ w = w' := by
  have hz : l[i / 8]? = some (l[i / 8]'hi) := List.getElem?_eq_getElem hi
  have hg : l.getD (i / 8) 0 = l[i / 8]'hi := by rw [List.getD_eq_getElem?_getD, hz]; rfl
  unfold bitN
  rw [hg]
  generalize l[i / 8]'hi = z at *
  have a0 := hA.c (i / 8) z hz
  have hz8 := hA.lt z (List.mem_of_getElem? hz)
  obtain ⟨q, hq⟩ : ∃ q, i / 8 = q := ⟨_, rfl⟩
  obtain ⟨r, hr⟩ : ∃ r, i % 8 = r := ⟨_, rfl⟩
  have hq1 : Int.tdiv (i : Int) 8 = (q : Int) := by rw [Int.tdiv_eq_ediv_of_nonneg (by omega)]; omega
  have hr1 : Int.tmod (i : Int) 8 = (r : Int) := by rw [Int.tmod_eq_emod_of_nonneg (by omega)]; omega
  have hq2 : (i : Int) / 8 = (q : Int) := by omega
  have hr2 : (i : Int) % 8 = (r : Int) := by omega
  rw [hq] at a0 hi
  rw [hr]
  have hlm : (l.length : Int) ≤ 9223372036854775807 := by unfold maxLen at hm; omega
  have hqm : (q : Int) < (l.length : Int) := by omega
  generalize l.length = m at *
  clear hz hg hA hm
  have hrc : r = 0 ∨ r = 1 ∨ r = 2 ∨ r = 3 ∨ r = 4 ∨ r = 5 ∨ r = 6 ∨ r = 7 := by omega
  rcases hrc with rfl | rfl | rfl | rfl | rfl | rfl | rfl | rfl
  all_goals
    go_enter Try.func25, Try.ntmps25
    go_wp2
    go_ret
    refine ⟨congrArg (fun x => Ending.returned (Value.bool x)) ?_, rfl⟩
    rw [Bool.eq_iff_iff]
    simp
    omega

/-! a value -/
/-- the number that bytes make, the least first -/
def numL : List Nat → Nat
  | [] => 0
  | c :: r => c + 256 * numL r
theorem numL_lt : ∀ (l : List Nat), (∀ x ∈ l, x < 256) → numL l < 256 ^ l.length
  | [], _ => by decide
  | c :: r, h => by
    have h1 := numL_lt r (fun x hx => h x (List.mem_cons_of_mem _ hx))
    have h2 := h c (List.mem_cons_self ..)
    unfold numL
    rw [List.length_cons, Nat.pow_succ]
    omega
/-- a number's 64 bits, with a sign -/
def sgn (u : Nat) : Int := if u < 9223372036854775808 then (u : Int) else (u : Int) - 18446744073709551616
/-- the bytes that a kind's number takes -/
def nby (t : Int) : Nat := if t = 2 ∨ t = 3 then 8 else 1
/-- a value at a place: an error, the value, where it ends -/
def rone (t : Int) (l : List Nat) (p : Nat) : Int × Vt × Nat :=
  if t < 1 ∨ 4 < t then (30, (0, 0, Em), p) else
  if l.length < p + nby t then (3, (0, 0, Em), p) else
  if t = 1 ∧ 1 < numL ((l.drop p).take (nby t)) then (2, (0, 0, Em), p) else
  if t = 3 ∧ PCanon (sgn (numL ((l.drop p).take (nby t)))) ≠ sgn (numL ((l.drop p).take (nby t))) then (2, (0, 0, Em), p) else
  if t < 4 then (0, (t, sgn (numL ((l.drop p).take (nby t))), Em), p + nby t) else
  if 200 < numL ((l.drop p).take (nby t)) then (1, (0, 0, Em), p) else
  if l.length < p + nby t + numL ((l.drop p).take (nby t)) then (3, (0, 0, Em), p) else
  (0, (4, 0, strB ((l.drop (p + nby t)).take (numL ((l.drop p).take (nby t))))), p + nby t + numL ((l.drop p).take (nby t)))

end Go.Proofs.Ytpknoclnmhomiab
