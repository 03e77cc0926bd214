/-
  Contracts of package value (layer 2) over the translation: checks, order, comparisons.
  Conditions: none.
-/
import Derived.Test.YtpknoclnmhomiabVal
import Derived.Test.YtpknoclnmhomiabBcell
import Derived.Deep.QuietTactic
import Derived.BigQuiet
namespace Go.Proofs.Ytpknoclnmhomiab
open Go.RowKit Go.Joins Go.ChangeShapes Go.WideShapes

def RightNum (k n : Int) : Bool := if k = 1 then n == 0 || n == 1 else if k = 2 then true else if k = 3 then n == RCanon n else n == 0

theorem right_any (k n : Int) (s : ByteArray) (w : World) :
    Calls Try.prog 32 #[Vv k n s] w fun e w' => e = .returned (.bool (RightNum k n)) ∧ Below w.heap.size w w' := by
  unfold Vv
  by_cases h1 : k = 1
  · subst h1
    by_cases c : n = 0
    · subst c
      rw [show RightNum 1 0 = true from rfl]
      go_enter Try.func32, Try.ntmps32
      go_wp2
      go_ret
      exact ⟨rfl, (Below.refl _ _).alloc (Nat.le_refl _) _⟩
    · have c1 : (n == 0) = false := by simpa using c
      by_cases d : n = 1
      · subst d
        rw [show RightNum 1 1 = true from rfl]
        go_enter Try.func32, Try.ntmps32
        go_wp2
        go_ret
        exact ⟨rfl, (Below.refl _ _).alloc (Nat.le_refl _) _⟩
      · have d1 : (n == 1) = false := by simpa using d
        rw [show RightNum 1 n = false by simp [RightNum, c, d]]
        clear c d
        go_enter Try.func32, Try.ntmps32
        go_wp2
        go_ret
        exact ⟨rfl, (Below.refl _ _).alloc (Nat.le_refl _) _⟩
  · have h1' : (k == 1) = false := by simpa using h1
    by_cases h2 : k = 2
    · subst h2
      rw [show RightNum 2 n = true from rfl]
      go_enter Try.func32, Try.ntmps32
      go_wp2
      go_ret
      exact ⟨rfl, (Below.refl _ _).alloc (Nat.le_refl _) _⟩
    · have h2' : (k == 2) = false := by simpa using h2
      by_cases h3 : k = 3
      · subst h3
        rw [show RightNum 3 n = (n == RCanon n) from rfl]
        have hc := canon_any n
        generalize RCanon n = c at *
        have HC := Lib.hid hc
        clear hc h1 h2 h1' h2'
        generalize hb : (n == c) = b
        go_enter Try.func32, Try.ntmps32
        go_wp2
        go_quiet ((go_at_call 34; exact Calls.quiet_of_same (same' (HC.out _))))
        go_wp2
        go_ret
        exact ⟨rfl, ((Below.refl _ _).alloc (Nat.le_refl _) _).trans ⟨rfl, rfl, rfl, Nat.le_refl _, fun _ _ => rfl⟩⟩
      · have h3' : (k == 3) = false := by simpa using h3
        rw [show RightNum k n = (n == 0) by simp [RightNum, h1, h2, h3]]
        clear h1 h2 h3
        generalize hb : (n == 0) = b
        go_enter Try.func32, Try.ntmps32
        go_wp2
        go_ret
        exact ⟨rfl, (Below.refl _ _).alloc (Nat.le_refl _) _⟩

/-- the error's number of a value -/
def VCheck (k n : Int) (s : ByteArray) : Int :=
  if k < 0 ∨ 4 < k then 50 else if RightNum k n = false then 2 else if k ≠ 4 ∧ s.toList ≠ [] then 2 else if 200 < s.size then 1 else 0

theorem check_any (k n : Int) (s : ByteArray) (hs : s.size ≤ maxLen) (w : World) :
    Calls Try.prog 28 #[Vv k n s] w fun e w' => e = .returned (.int .i64 (VCheck k n s)) ∧ Below w.heap.size w w' := by
  have hr := fun w => right_any k n s w
  have hm : (s.size : Int) ≤ 9223372036854775807 := by unfold maxLen at hs; omega
  unfold Vv at *
  by_cases h1 : k < 0 ∨ 4 < k
  · rw [show VCheck k n s = 50 by unfold VCheck; rw [if_pos h1]]
    have HR := Lib.hid hr
    clear hr
    rcases Int.lt_or_le k 0 with h2 | h2
    all_goals
      have h3 : k < 0 ∨ 4 < k := h1
      clear h1
      go_enter Try.func28, Try.ntmps28
      go_wp2
      go_ret
      exact ⟨rfl, (Below.refl _ _).alloc (Nat.le_refl _) _⟩
  · rcases h4 : RightNum k n with _ | _
    · rw [h4] at hr
      rw [show VCheck k n s = 2 by unfold VCheck; rw [if_neg h1, if_pos h4]]
      have HR := Lib.hid hr
      have h5 : 0 ≤ k := by omega
      have h6 : k ≤ 4 := by omega
      clear hr h1 h4
      go_enter Try.func28, Try.ntmps28
      go_wp2_with fail
      refine (HR.out _).mono ?_
      rintro e w1 ⟨rfl, hb⟩
      go_wp2
      go_ret
      exact ⟨rfl, ((Below.refl _ _).alloc (Nat.le_refl _) _).trans (hb.mono (by simp))⟩
    · rw [h4] at hr
      have HR := Lib.hid hr
      have h5 : 0 ≤ k := by omega
      have h6 : k ≤ 4 := by omega
      have hsz : s.toList.length = s.size := by rw [Go.ByteArray.toList_eq]; rfl
      have hv : VCheck k n s = if k ≠ 4 ∧ s.toList ≠ [] then 2 else if 200 < s.size then 1 else 0 := by unfold VCheck; rw [if_neg h1, if_neg (by rw [h4]; decide)]
      rw [hv]
      clear hr h1 h4 hv
      by_cases c4 : k = 4
      · subst c4
        rw [if_neg (by simp)]
        clear hsz
        by_cases c2 : 200 < s.size
        · rw [if_pos c2]
          go_enter Try.func28, Try.ntmps28
          go_wp2_with fail
          refine (HR.out _).mono ?_
          rintro e w1 ⟨rfl, hb⟩
          obtain ⟨hc, hf⟩ := bcell hb
          go_wp2
          go_ret
          exact ⟨rfl, ((Below.refl _ _).alloc (Nat.le_refl _) _).trans (hb.mono (by simp))⟩
        · rw [if_neg c2]
          go_enter Try.func28, Try.ntmps28
          go_wp2_with fail
          refine (HR.out _).mono ?_
          rintro e w1 ⟨rfl, hb⟩
          obtain ⟨hc, hf⟩ := bcell hb
          go_wp2
          go_ret
          exact ⟨rfl, ((Below.refl _ _).alloc (Nat.le_refl _) _).trans (hb.mono (by simp))⟩
      · have c4' : (k != 4) = true := by simpa using c4
        by_cases c2 : s.toList = []
        · rw [if_neg (by simp [c2]), if_neg (by rw [← hsz, c2]; simp)]
          have hz : s.size = 0 := by rw [← hsz, c2]; rfl
          have hz' : ¬ (200 : Int) < (s.size : Int) := by omega
          clear hsz hz
          go_enter Try.func28, Try.ntmps28
          go_wp2_with fail
          refine (HR.out _).mono ?_
          rintro e w1 ⟨rfl, hb⟩
          obtain ⟨hc, hf⟩ := bcell hb
          go_wp2
          go_ret
          exact ⟨rfl, ((Below.refl _ _).alloc (Nat.le_refl _) _).trans (hb.mono (by simp))⟩
        · rw [if_pos ⟨c4, c2⟩]
          have c3 : s.toList.isEmpty = false := by simpa using c2
          clear hsz
          go_enter Try.func28, Try.ntmps28
          go_wp2_with fail
          refine (HR.out _).mono ?_
          rintro e w1 ⟨rfl, hb⟩
          obtain ⟨hc, hf⟩ := bcell hb
          go_wp2
          go_ret
          exact ⟨rfl, ((Below.refl _ _).alloc (Nat.le_refl _) _).trans (hb.mono (by simp))⟩

end Go.Proofs.Ytpknoclnmhomiab
