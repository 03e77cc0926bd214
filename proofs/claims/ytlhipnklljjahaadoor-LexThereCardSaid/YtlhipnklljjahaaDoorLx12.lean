/-
  Whether a point with a digit behind it comes next (layer 12): contracts over the translation.
  Conditions: the reader lies in memory.
-/
import Derived.Test.YtlhipnklljjahaaDoorLx11
namespace Go.Proofs.YtlhipnklljjahaaDoor
set_option maxRecDepth 100000
open Go.RowKit Go.Joins Go.ChangeShapes Go.WideShapes
set_option linter.unusedVariables false
set_option linter.unusedSimpArgs false

set_option maxHeartbeats 2000000 in
theorem frac_any {w : World} {rd b off cap : Nat} {l : List Nat} (h : Rd w rd b off cap l) :
    Calls Tryd.prog 29 #[.pointer (some ⟨rd, 0, none⟩)] w fun e w' => e = .returned (.bool (fracL l)) ∧ w = w' := by
  have c0 : w.cell? ⟨rd, 0, none⟩ = some (.slice (some ⟨b, off, none⟩) l.length cap) := by rw [cell_of_block h.hd]; rfl
  rcases l with _ | ⟨p, _ | ⟨d, r⟩⟩
  · have c0 : w.cell? ⟨rd, 0, none⟩ = some (.slice (some ⟨b, off, none⟩) 0 cap) := c0
    clear h
    go_enter Tryd.func29, Tryd.ntmps29
    go_wp2_with fail
    go_ret
    exact ⟨rfl, rfl⟩
  · have c0 : w.cell? ⟨rd, 0, none⟩ = some (.slice (some ⟨b, off, none⟩) 1 cap) := c0
    clear h
    go_enter Tryd.func29, Tryd.ntmps29
    go_wp2_with fail
    go_ret
    exact ⟨rfl, rfl⟩
  · have d0 : w.cell? ⟨b, off, none⟩ = some (.int .u8 (p : Int)) := h.is.c 0 p rfl
    have d1 : w.cell? ⟨b, off + 1, none⟩ = some (.int .u8 (d : Int)) := h.is.c 1 d rfl
    have HD := Lib.hid (digit_any d w (h.is.lt d (by simp)))
    have e1 : ((p : Int) == (46 : Int)) = (p == 46) := eqi p 46
    obtain ⟨n, hn⟩ : ∃ n, (p :: d :: r).length = n := ⟨_, rfl⟩
    have h2 : (1 : Int) < (n : Int) := by rw [← hn]; simp; omega
    rw [hn] at c0
    show Calls _ _ _ _ fun e w' => e = .returned (.bool (p == 46 && dgL d)) ∧ w = w'
    clear h hn
    generalize dgL d = v at *
    cases h1 : (p == 46) <;> rw [h1] at e1 <;> clear h1 <;> cases v
    all_goals
      go_enter Tryd.func29, Tryd.ntmps29
      go_wp2_with (first | (go_at_call 19; refine HD.out.mono ?_; rintro e w' ⟨rfl, rfl⟩))
      go_ret
      exact ⟨rfl, rfl⟩

end Go.Proofs.YtlhipnklljjahaaDoor
