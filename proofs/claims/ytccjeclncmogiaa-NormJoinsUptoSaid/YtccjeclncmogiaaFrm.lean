/-
  What a call may write: the blocks of a set, and new ones.
  Conditions: none.
-/
import Derived.Test.YtccjeclncmogiaaByt2
import Derived.Maps.Range
namespace Go.Proofs.Ytccjeclncmogiaa
open Go.RowKit Go.Joins Go.ChangeShapes Go.WideShapes
set_option linter.unusedVariables false

/-- a set of blocks -/
abbrev Bl := Nat → Prop
/-- from w to w' only the blocks of F, and new ones, have turned -/
structure Frm (F : Bl) (w w' : World) : Prop where
  os : w'.os = w.os
  tape : w'.tape = w.tape
  output : w'.output = w.output
  size : w.heap.size ≤ w'.heap.size
  block : ∀ k, k < w.heap.size → ¬ F k → w'.heap[k]? = w.heap[k]?
/-- F' has nothing of the old but F's -/
def New (w : World) (F F' : Bl) : Prop := ∀ k, F' k → F k ∨ w.heap.size ≤ k
theorem New.refl (w : World) (F : Bl) : New w F F := fun _ h => .inl h
theorem New.trans {w w1 : World} {F F1 F2 : Bl} (h : New w F F1) (h2 : New w1 F1 F2) (hs : w.heap.size ≤ w1.heap.size) : New w F F2 := fun k hk => by
  rcases h2 k hk with g | g
  · exact h k g
  · exact .inr (Nat.le_trans hs g)
theorem Frm.refl (F : Bl) (w : World) : Frm F w w := ⟨rfl, rfl, rfl, Nat.le_refl _, fun _ _ _ => rfl⟩
theorem Frm.trans {F F1 : Bl} {w w1 w2 : World} (h : Frm F w w1) (h2 : Frm F1 w1 w2) (hn : New w F F1) : Frm F w w2 :=
  ⟨h2.os.trans h.os, h2.tape.trans h.tape, h2.output.trans h.output, Nat.le_trans h.size h2.size, fun k hk hf => (h2.block k (Nat.lt_of_lt_of_le hk h.size) (fun hc => by
    rcases hn k hc with g | g
    · exact hf g
    · omega)).trans (h.block k hk hf)⟩
theorem Frm.mono {F F1 : Bl} {w w1 : World} (h : Frm F w w1) (hs : ∀ k, F k → F1 k) : Frm F1 w w1 := ⟨h.os, h.tape, h.output, h.size, fun k hk hf => h.block k hk (fun g => hf (hs k g))⟩
theorem Frm.of_below {F : Bl} {w w1 : World} (h : Below w.heap.size w w1) : Frm F w w1 := ⟨h.os, h.tape, h.output, h.size, fun k hk _ => h.block k hk⟩
theorem Frm.below {F : Bl} {w w1 : World} {B : Nat} (h : Frm F w w1) (hF : ∀ k, F k → B ≤ k) (hB : B ≤ w.heap.size) : Below B w w1 :=
  ⟨h.os, h.tape, h.output, h.size, fun k hk => h.block k (Nat.lt_of_lt_of_le hk hB) (fun g => by have := hF k g; omega)⟩
theorem Frm.nothing {w w1 : World} (h : Frm (fun _ => False) w w1) : Below w.heap.size w w1 := h.below (fun _ h => h.elim) (Nat.le_refl _)
theorem Frm.drew {F : Bl} {w w1 : World} (h : Frm F w w1) : Frm F w w1.drew := ⟨h.os, h.tape, h.output, h.size, h.block⟩
theorem Frm.alloc {F : Bl} {w w1 : World} (h : Frm F w w1) (o : Obj) : Frm F w (w1.alloc o) := h.trans (Frm.of_below ((Below.refl _ _).alloc (Nat.le_refl _) _)) (New.refl _ _)
theorem Frm.set1 {F : Bl} (w : World) {g : Nat} (hg : F g) (o : Nat) (u : Value) : Frm F w (w.setCell ⟨g, o, none⟩ u) :=
  ⟨rfl, rfl, rfl, by simp [World.setCell], fun k _ hf => heap_setCell_other w ⟨g, o, none⟩ k u (fun e => hf (by simp at e; subst e; exact hg))⟩
theorem Frm.setCell {F : Bl} {w w1 : World} (h : Frm F w w1) {g : Nat} (hg : F g ∨ w.heap.size ≤ g) (o : Nat) (u : Value) : Frm F w (w1.setCell ⟨g, o, none⟩ u) :=
  h.trans (F1 := fun k => k = g) (Frm.set1 w1 (F := fun k => k = g) rfl o u) (fun k hk => by subst hk; exact hg)
theorem Frm.grown {F : Bl} {w w1 w2 : World} {row : Option Nat} (h : Frm F w w1) (hg : w1.grownBy w2 row) (hr : ∀ k, row = some k → F k ∨ w.heap.size ≤ k) : Frm F w w2 :=
  h.trans (F1 := fun k => row = some k) ⟨hg.os, hg.tape, hg.output, hg.size, fun k hk hf => hg.block k hk (fun e => hf e.symm)⟩ hr
theorem Frm.step {F : Bl} {w w1 w2 : World} (h : Frm F w w1) (hb : Below w1.heap.size w1 w2) : Frm F w w2 := h.trans (Frm.of_below (F := F) hb) (New.refl _ _)
theorem Frm.heap {F : Bl} {w w1 : World} (h : Frm F w w1) {g : Nat} (hg : g < w.heap.size) (hf : ¬ F g) : w1.heap[g]? = w.heap[g]? := h.block g hg hf
theorem Frm.cell {F : Bl} {w w1 : World} (h : Frm F w w1) {g : Nat} (hg : g < w.heap.size) (hf : ¬ F g) (o : Nat) : w1.cell? ⟨g, o, none⟩ = w.cell? ⟨g, o, none⟩ := World.cell?_of_block (a := ⟨g, o, none⟩) (h.block g hg hf)
theorem Frm.frozen {F : Bl} {w w1 : World} (h : Frm F w w1) {g : Nat} (hg : g < w.heap.size) (hf : ¬ F g) (o : Nat) : w1.frozen? ⟨g, o, none⟩ = w.frozen? ⟨g, o, none⟩ := World.frozen?_of_block (a := ⟨g, o, none⟩) (h.block g hg hf)
theorem Frm.isB {F : Bl} {w w1 : World} (h : Frm F w w1) {b off : Nat} {l : List Nat} (hb : IsB w b off l) (hf : 0 < l.length → ¬ F b) : IsB w1 b off l := by
  refine ⟨fun hl => Nat.lt_of_lt_of_le (hb.hb hl) h.size, fun i x hx => ?_, hb.lt⟩
  have hl : 0 < l.length := by have := (List.getElem?_eq_some_iff.1 hx).1; omega
  rw [h.cell (hb.hb hl) (hf hl)]
  exact hb.c i x hx
theorem Frm.ownsRow {F : Bl} {w w1 : World} (h : Frm F w w1) {base : Nat} {e : TypeId} {size : Nat} {v : Value} {n : Nat} {xs : List Value} (ho : w.ownsRow base e size v n xs) (hf : ∀ k, v.ownBlock = some k → ¬ F k) : w1.ownsRow base e size v n xs := by
  refine ⟨ho.1, ?_⟩
  rcases ho.2 with hn | ⟨g, cap, cur, rfl, hb, hg, rest⟩
  · exact .inl hn
  · exact .inr ⟨g, cap, cur, rfl, hb, (h.block g (Array.getElem?_eq_some_iff.1 hg).1 (hf g rfl)).trans hg, rest⟩

end Go.Proofs.Ytccjeclncmogiaa
