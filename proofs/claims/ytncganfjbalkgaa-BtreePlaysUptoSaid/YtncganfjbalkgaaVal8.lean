/-
  Contracts over the translation: the order of two lists of values, of package value (layer 2) and of the document's answer.
  Conditions: the lists lie in memory.
-/
import Derived.Test.YtncganfjbalkgaaVal4
import Derived.StillTailTactics
namespace Go.Proofs.Ytncganfjbalkgaa
open Go.RowKit Go.Joins Go.ChangeShapes Go.WideShapes
set_option linter.unusedVariables false

/-- a list of values in memory, by its kinds, numbers and texts -/
structure IsV (w : World) (b off len : Nat) (kf nf : Nat → Int) (sf : Nat → ByteArray) : Prop where
  hb : 0 < len → b < w.heap.size
  c0 : ∀ i, i < len → w.cell? ⟨b, off + i * 3, none⟩ = some (.int .i64 (kf i))
  c1 : ∀ i, i < len → w.cell? ⟨b, off + i * 3 + 1, none⟩ = some (.int .i64 (nf i))
  c2 : ∀ i, i < len → w.cell? ⟨b, off + i * 3 + 2, none⟩ = some (.string (sf i))

theorem IsV.below {w w' : World} {b off len : Nat} {kf nf : Nat → Int} {sf : Nat → ByteArray} (h : IsV w b off len kf nf sf) (hw : Below w.heap.size w w') : IsV w' b off len kf nf sf := by
  obtain ⟨hc, _⟩ := bcell hw
  refine ⟨fun hl => Nat.lt_of_lt_of_le (h.hb hl) hw.size, fun i hi => ?_, fun i hi => ?_, fun i hi => ?_⟩
  · rw [hc _ _ (h.hb (by omega))]; exact h.c0 i hi
  · rw [hc _ _ (h.hb (by omega))]; exact h.c1 i hi
  · rw [hc _ _ (h.hb (by omega))]; exact h.c2 i hi

/-- the first of c's numbers from i on that isn't 0, of r; t, if there is none -/
def firstNZ (c : Nat → Int) (t : Int) : Nat → Nat → Int
  | _, 0 => t
  | i, r + 1 => if c i = 0 then firstNZ c t (i + 1) r else c i

theorem firstNZ_step {c : Nat → Int} {t T : Int} {k n : Nat} (h : firstNZ c t k (n - k) = T) (hk : k < n) : (c k = 0 → firstNZ c t (k + 1) (n - (k + 1)) = T) ∧ (c k ≠ 0 → c k = T) := by
  obtain ⟨r, hr⟩ : ∃ r, n - k = r + 1 := ⟨n - k - 1, by omega⟩
  rw [hr] at h
  unfold firstNZ at h
  rw [show n - (k + 1) = r from by omega]
  constructor
  · intro hz; rw [if_pos hz] at h; exact h
  · intro hz; rw [if_neg hz] at h; exact h

theorem firstNZ_end {c : Nat → Int} {t T : Int} {k n : Nat} (h : firstNZ c t k (n - k) = T) (hk : n ≤ k) : t = T := by
  rw [show n - k = 0 from by omega] at h
  exact h

end Go.Proofs.Ytncganfjbalkgaa
