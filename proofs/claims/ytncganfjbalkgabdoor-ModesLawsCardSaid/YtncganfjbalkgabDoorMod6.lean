/-
  The law's example on modes; what the tables' laws say (by the kernel).
  Conditions: the variables hold what the program's text lays.
-/
import Derived.Test.YtncganfjbalkgabDoorMod5
import Derived.Deep.Cut
namespace Go.Proofs.YtncganfjbalkgabDoor
open Go.RowKit Go.Joins Go.ChangeShapes Go.WideShapes
set_option linter.unusedVariables false
set_option linter.unusedSimpArgs false

/-- both tables -/
def Tabs (w : World) : Prop := TabB w 0 tgL ∧ TabB w 1 cvL
theorem Tabs.below {w w1 : World} (h : Tabs w) (hb : Below w.heap.size w w1) : Tabs w1 := ⟨h.1.below hb, h.2.below hb⟩
set_option maxHeartbeats 1000000 in
theorem speaks9_any (w : World) (h : Tabs w) : Calls Tryd.prog 19 #[] w fun e w' => e = .returned (.bool true) ∧ w = w' := by
  have h1 := tog_any 5 3 w h.1
  have h2 := tog_any 5 5 w h.1
  have h3 := join_any 3 2 w h.2
  have h4 := cov_any 6 4 w h.2
  have h5 := cov_any 4 5 w h.2
  have h6 := right_any 6 w
  rw [show tgI 5 3 = true from rfl] at h1
  rw [show tgI 5 5 = false from rfl] at h2
  rw [show jnI 3 2 = 4 from rfl] at h3
  rw [show cvI 6 4 = true from rfl] at h4
  rw [show cvI 4 5 = false from rfl] at h5
  rw [show rg 6 = true from rfl] at h6
  have H1 := Lib.hid h1
  have H2 := Lib.hid h2
  have H3 := Lib.hid h3
  have H4 := Lib.hid h4
  have H5 := Lib.hid h5
  have H6 := Lib.hid h6
  clear h1 h2 h3 h4 h5 h6 h
  go_enter Tryd.func19, Tryd.ntmps19
  go_wp2_with fail
  refine H1.out.mono ?_
  rintro e w' ⟨rfl, rfl⟩
  go_wp2_with fail
  refine H2.out.mono ?_
  rintro e w' ⟨rfl, rfl⟩
  go_wp2_with fail
  refine H3.out.mono ?_
  rintro e w' ⟨rfl, rfl⟩
  go_wp2_with fail
  refine H4.out.mono ?_
  rintro e w' ⟨rfl, rfl⟩
  go_wp2_with fail
  refine H5.out.mono ?_
  rintro e w' ⟨rfl, rfl⟩
  go_wp2_with fail
  refine H6.out.mono ?_
  rintro e w' ⟨rfl, rfl⟩
  go_wp2
  go_ret
  exact ⟨rfl, rfl⟩
def mlB (a b c : Nat) : Bool := (tgI a b == tgI b a) && (jnI a b == jnI b a) && cvI (jnI a b) a && cvI (jnI a b) b && (jnI a (jnI b c) == jnI (jnI a b) c) && (!cvI c a || !cvI c b || cvI c (jnI a b)) && (!cvI a b || !tgI a c || tgI b c)
theorem mlaws_b : ∀ a, a < 7 → ∀ b, b < 7 → ∀ c, c < 7 → mlB a b c = true := by decide +kernel
theorem mlaws (a : Nat) (ha : a < 7) (b : Nat) (hb : b < 7) (c : Nat) (hc : c < 7) : tgI (a : Nat) (b : Nat) = tgI (b : Nat) (a : Nat) ∧ jnI (a : Nat) (b : Nat) = jnI (b : Nat) (a : Nat) ∧ cvI (jnI (a : Nat) (b : Nat)) (a : Nat) = true ∧ cvI (jnI (a : Nat) (b : Nat)) (b : Nat) = true ∧
    jnI (a : Nat) (jnI (b : Nat) (c : Nat)) = jnI (jnI (a : Nat) (b : Nat)) (c : Nat) ∧ (cvI (c : Nat) (a : Nat) = true → cvI (c : Nat) (b : Nat) = true → cvI (c : Nat) (jnI (a : Nat) (b : Nat)) = true) ∧ (cvI (a : Nat) (b : Nat) = true → tgI (a : Nat) (c : Nat) = true → tgI (b : Nat) (c : Nat) = true) := by
  have h := mlaws_b a ha b hb c hc
  unfold mlB at h
  simp only [Bool.and_eq_true, beq_iff_eq, Bool.or_eq_true, Bool.not_eq_true'] at h
  obtain ⟨⟨⟨⟨⟨⟨h1, h2⟩, h3⟩, h4⟩, h5⟩, h6⟩, h7⟩ := h
  refine ⟨h1, h2, h3, h4, h5, fun x y => ?_, fun x y => ?_⟩
  · rcases h6 with (h | h) | h
    · rw [x] at h; cases h
    · rw [y] at h; cases h
    · exact h
  · rcases h7 with (h | h) | h
    · rw [x] at h; cases h
    · rw [y] at h; cases h
    · exact h
theorem rg_cases {a : Int} (h : rg a = true) : ∃ n : Nat, a = n ∧ n < 7 := by
  simp only [rg, Bool.and_eq_true, decide_eq_true_eq] at h
  exact ⟨a.toNat, by omega, by omega⟩

end Go.Proofs.YtncganfjbalkgabDoor
