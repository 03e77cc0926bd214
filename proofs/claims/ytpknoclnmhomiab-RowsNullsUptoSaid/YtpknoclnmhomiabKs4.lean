/-
  Package keys over the translation: Behind.
  Conditions: the row lies in memory.
-/
import Derived.Test.YtpknoclnmhomiabKs2
import Derived.Test.YtpknoclnmhomiabBulk
import Derived.Laws.Cover3
namespace Go.Proofs.Ytpknoclnmhomiab
open Go.RowKit Go.Joins Go.ChangeShapes Go.WideShapes
set_option linter.unusedVariables false

/-- the beginning of a row of bytes -/
theorem slice_h0 (b off m cap n : Nat) (h : n ≤ cap) (w : World) :
    (Instr.slice 27 (.slice (some ⟨b, off, none⟩) m cap) none (some (.int .i64 (n : Int))) none).run Try.prog w = .ok (.slice (some ⟨b, off, none⟩) n cap) w := by
  have hs : (sizeOf (Try.prog.elem 27)).run Try.prog w = .ok 1 w := by first | rfl | kernel_rfl
  rw [run_slice_h w 27 (some ⟨b, off, none⟩) m cap (by kernel_rfl) .i64 (n : Int) (by omega) (by omega), hs]
  have ea : (⟨b, off, none⟩ : Addr).add 0 = ⟨b, off, none⟩ := by unfold Addr.add; split <;> simp_all
  simp only [Result.andThen, sliced, Nat.zero_mul, Option.map_some, ea]
  simp

end Go.Proofs.Ytpknoclnmhomiab
