/-
  Operators on two whole numbers, wherever they lie; what a quotient and a rest make.
  Conditions: the numbers are of 64 bits.
-/
import Derived.Test.YtceingfjdkpolaaAri8
namespace Go.Proofs.Ytceingfjdkpolaa
open Go.RowKit Go.Joins Go.ChangeShapes Go.WideShapes
set_option linter.unusedVariables false

theorem do2_at (op a b k n : Int) (s : ByteArray) (e : Int) (ho : op = 7 ∨ op = 8 ∨ op = 9 ∨ op = 10 ∨ op = 11) (ha : InI a) (hb : InI b) (hN : Wo (wholeV op a b) = (k, n, s, e)) (w : World) (g : Nat) (hg : g < w.heap.size) (h0 : Opd w g 0 2 a E0) (h1 : Opd w g (0 + 3) 2 b E0) :
    Calls Try.prog 12 #[.int .i64 op, .slice (some ⟨g, 0, none⟩) 2 2] w fun x w' => x = .returned (Out k n s e) ∧ Below w.heap.size w w' := by
  have hT : tyV op 2 2 2 = 2 := by rcases ho with rfl | rfl | rfl | rfl | rfl <;> rfl
  have hc : cntV op = 2 := by rcases ho with rfl | rfl | rfl | rfl | rfl <;> rfl
  have hV : numV op 2 a b = wholeV op a b := by rcases ho with rfl | rfl | rfl | rfl | rfl <;> simp [numV]
  have h := do2_full op g 0 2 2 a E0 2 b E0 w hg h0 h1 hc (by decide) (by decide) ha hb (by decide) (by decide) 2 hT _ hV (Wo (wholeV op a b)) (by
    right; right; right
    refine ⟨rfl, rfl, .inr (.inr (.inr ⟨by decide, by unfold OpsI; omega⟩)), ?_⟩
    unfold Wo
    by_cases z : (wholeV op a b).2 = 0
    · right; rw [if_pos z]; exact ⟨z, rfl⟩
    · left; rw [if_neg z]; exact ⟨by simpa using z, rfl⟩)
  rw [hN] at h
  exact h

theorem wo_ok (n : Int) : Wo (n, 0) = (2, n, E0, 0) := rfl
theorem wo_chk {n : Int} (h : InI n) : Wo (chk n) = (2, n, E0, 0) := by rw [chk_in h]; rfl
theorem wo_out {n : Int} (h : ¬ InI n) : Wo (chk n) = (0, 0, E0, 31) := by rw [chk_out h]; rfl
theorem wo_zero : Wo (0, 32) = (0, 0, E0, 32) := rfl
theorem wv7 (a b : Int) : wholeV 7 a b = chk (a + b) := by simp [wholeV]
theorem wv8 (a b : Int) : wholeV 8 a b = chk (a - b) := by simp [wholeV]
theorem wv10 (a b : Int) : wholeV 10 a b = divV a b := by simp [wholeV]
theorem wv11 (a b : Int) : wholeV 11 a b = modV a b := by simp [wholeV]

/-- a call of Do on a list that was just written -/
def DoIs (op a b k n e : Int) : Prop := ∀ w : World, Calls Try.prog 12 #[.int .i64 op, .slice (some ⟨w.heap.size, 0, none⟩) 2 2] (w.alloc (.cells #[.int .i64 2, .int .i64 a, .string E0, .int .i64 2, .int .i64 b, .string E0] 25)) fun x w' =>
      x = .returned (Out k n E0 e) ∧ Below w.heap.size w w'
theorem do_is {op a b k n e : Int} (ho : op = 7 ∨ op = 8 ∨ op = 9 ∨ op = 10 ∨ op = 11) (ha : InI a) (hb : InI b) (hN : Wo (wholeV op a b) = (k, n, E0, e)) : DoIs op a b k n e := by
  intro w
  refine (do2_at op a b k n E0 e ho ha hb hN _ w.heap.size (by simp) (opd_l0 w _ _ _ _ _ _) (opd_l1 w _ _ _ _ _ _)).mono ?_
  rintro x w' ⟨h1, h2⟩
  exact ⟨h1, ((Below.refl _ _).alloc (Nat.le_refl _) _).trans (h2.mono (by simp))⟩

theorem back_div {a b : Int} (ha : InI a) (h0 : b ≠ 0) : wrap64 (a.tdiv b * b) = a.tdiv b * b ∧ wrap64 (a.tdiv b * b + a.tmod b) = a := by
  obtain ⟨h1, h2⟩ := tmod_in (b := b) ha h0
  have hs : 0 ≤ a.tmod b ∧ a.tmod b ≤ a ∨ a.tmod b ≤ 0 ∧ a ≤ a.tmod b := by
    have hl : (a.tmod b).natAbs ≤ a.natAbs := by rw [Int.natAbs_tmod]; exact Nat.mod_le _ _
    rcases Int.le_total 0 a with c | c
    · left
      have := Int.tmod_nonneg b c
      omega
    · right
      have e1 : a.tmod b = -((-a).tmod b) := by rw [Int.neg_tmod, Int.neg_neg]
      have := Int.tmod_nonneg (a := -a) b (by omega)
      omega
  generalize a.tdiv b * b = p at *
  generalize a.tmod b = r at *
  unfold InI at *
  refine ⟨w64_in (by unfold InI; omega), ?_⟩
  rw [w64_in (by unfold InI; omega)]
  omega

end Go.Proofs.Ytceingfjdkpolaa
