/-
  What a region of a law over boxed values keeps: the boxes' cells, behind a call that only makes memory.
  Conditions: none.
-/
import Derived.Test.YteeglmfjogoggabSpeak2
namespace Go.Proofs.Yteeglmfjogoggab
open Go.RowKit

theorem keep1 {B : Nat} {Wb w1 w2 : World} {b : Nat} {x0 x1 x2 : Value} (h : Below B Wb w1) (hB : B ≤ Wb.heap.size) (hlt : b + 1 ≤ B) (hb : Below w1.heap.size w1 w2) (c0 : w1.cell? ⟨b, 0, none⟩ = some x0) (c1 : w1.cell? ⟨b, 1, none⟩ = some x1) (c2 : w1.cell? ⟨b, 2, none⟩ = some x2) :
    Below B Wb w2 ∧ w2.cell? ⟨b, 0, none⟩ = some x0 ∧ w2.cell? ⟨b, 1, none⟩ = some x1 ∧ w2.cell? ⟨b, 2, none⟩ = some x2 := by
  obtain ⟨hc, -⟩ := bcell hb
  have := h.size
  refine ⟨h.trans (hb.mono (by omega)), ?_, ?_, ?_⟩ <;> rw [hc _ _ (by omega)] <;> assumption

theorem keep2 {B : Nat} {Wb w1 w2 : World} {b : Nat} {x0 x1 x2 x3 x4 x5 : Value} (h : Below B Wb w1) (hB : B ≤ Wb.heap.size) (hlt : b + 2 ≤ B) (hb : Below w1.heap.size w1 w2) (c0 : w1.cell? ⟨b, 0, none⟩ = some x0) (c1 : w1.cell? ⟨b, 1, none⟩ = some x1) (c2 : w1.cell? ⟨b, 2, none⟩ = some x2) (c3 : w1.cell? ⟨b + 1, 0, none⟩ = some x3) (c4 : w1.cell? ⟨b + 1, 1, none⟩ = some x4) (c5 : w1.cell? ⟨b + 1, 2, none⟩ = some x5) :
    Below B Wb w2 ∧ w2.cell? ⟨b, 0, none⟩ = some x0 ∧ w2.cell? ⟨b, 1, none⟩ = some x1 ∧ w2.cell? ⟨b, 2, none⟩ = some x2 ∧ w2.cell? ⟨b + 1, 0, none⟩ = some x3 ∧ w2.cell? ⟨b + 1, 1, none⟩ = some x4 ∧ w2.cell? ⟨b + 1, 2, none⟩ = some x5 := by
  obtain ⟨hc, -⟩ := bcell hb
  have := h.size
  refine ⟨h.trans (hb.mono (by omega)), ?_, ?_, ?_, ?_, ?_, ?_⟩ <;> rw [hc _ _ (by omega)] <;> assumption

theorem keep3 {B : Nat} {Wb w1 w2 : World} {b : Nat} {x0 x1 x2 x3 x4 x5 x6 x7 x8 : Value} (h : Below B Wb w1) (hB : B ≤ Wb.heap.size) (hlt : b + 3 ≤ B) (hb : Below w1.heap.size w1 w2) (c0 : w1.cell? ⟨b, 0, none⟩ = some x0) (c1 : w1.cell? ⟨b, 1, none⟩ = some x1) (c2 : w1.cell? ⟨b, 2, none⟩ = some x2) (c3 : w1.cell? ⟨b + 1, 0, none⟩ = some x3) (c4 : w1.cell? ⟨b + 1, 1, none⟩ = some x4) (c5 : w1.cell? ⟨b + 1, 2, none⟩ = some x5) (c6 : w1.cell? ⟨b + 2, 0, none⟩ = some x6) (c7 : w1.cell? ⟨b + 2, 1, none⟩ = some x7) (c8 : w1.cell? ⟨b + 2, 2, none⟩ = some x8) :
    Below B Wb w2 ∧ w2.cell? ⟨b, 0, none⟩ = some x0 ∧ w2.cell? ⟨b, 1, none⟩ = some x1 ∧ w2.cell? ⟨b, 2, none⟩ = some x2 ∧ w2.cell? ⟨b + 1, 0, none⟩ = some x3 ∧ w2.cell? ⟨b + 1, 1, none⟩ = some x4 ∧ w2.cell? ⟨b + 1, 2, none⟩ = some x5 ∧ w2.cell? ⟨b + 2, 0, none⟩ = some x6 ∧ w2.cell? ⟨b + 2, 1, none⟩ = some x7 ∧ w2.cell? ⟨b + 2, 2, none⟩ = some x8 := by
  obtain ⟨hc, -⟩ := bcell hb
  have := h.size
  refine ⟨h.trans (hb.mono (by omega)), ?_, ?_, ?_, ?_, ?_, ?_, ?_, ?_, ?_⟩ <;> rw [hc _ _ (by omega)] <;> assumption

theorem bcellB {B : Nat} {W w1 : World} (hb : Below B W w1) : (∀ b o, b < B → w1.cell? ⟨b, o, none⟩ = W.cell? ⟨b, o, none⟩) ∧ (∀ b o, b < B → w1.frozen? ⟨b, o, none⟩ = W.frozen? ⟨b, o, none⟩) :=
  ⟨fun b o h => hb.cell (p := ⟨b, o, none⟩) h, fun b o h => hb.frozen (p := ⟨b, o, none⟩) h⟩

theorem three_boxes (w : World) (a b c : Obj) : Below w.heap.size w (((w.alloc a).alloc b).alloc c) :=
  (two_below w a b).alloc (by simp; omega) _

end Go.Proofs.Yteeglmfjogoggab
