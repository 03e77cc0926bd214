/-
  Words for worlds on a way through calls that make memory: cells that stay, and what is below.
  Conditions: none.
-/
import Derived.Test.YtccjeclncmogiaaBcell
import Derived.WalkKit
import Derived.Lib.Hide
import Derived.Below
namespace Go.Proofs.Ytccjeclncmogiaa
open Go.RowKit

/-- cells that lie in a world, not frozen -/
def Kp (w : World) (l : List (Nat × Nat × Value)) : Prop := ∀ x ∈ l, x.1 < w.heap.size ∧ w.cell? ⟨x.1, x.2.1, none⟩ = some x.2.2 ∧ w.frozen? ⟨x.1, x.2.1, none⟩ = false

theorem Kp.below {w w1 : World} {l : List (Nat × Nat × Value)} (h : Kp w l) (hb : Below w.heap.size w w1) : Kp w1 l := by
  obtain ⟨hc, hf⟩ := bcell hb
  intro x hx
  obtain ⟨a, b, c⟩ := h x hx
  exact ⟨Nat.lt_of_lt_of_le a hb.size, (hc _ _ a).trans b, (hf _ _ a).trans c⟩
theorem Kp.drew {w : World} {l : List (Nat × Nat × Value)} (h : Kp w l) : Kp w.drew l := h
theorem Kp.hd {w : World} {b o : Nat} {v : Value} {l : List (Nat × Nat × Value)} (h : Kp w ((b, o, v) :: l)) : w.cell? ⟨b, o, none⟩ = some v ∧ w.frozen? ⟨b, o, none⟩ = false := (h _ (List.mem_cons_self ..)).2
theorem Kp.lt {w : World} {b o : Nat} {v : Value} {l : List (Nat × Nat × Value)} (h : Kp w ((b, o, v) :: l)) : b < w.heap.size := (h _ (List.mem_cons_self ..)).1
theorem Kp.tl {w : World} {x : Nat × Nat × Value} {l : List (Nat × Nat × Value)} (h : Kp w (x :: l)) : Kp w l := fun y hy => h y (List.mem_cons_of_mem _ hy)
theorem Kp.two {w : World} {b o b' o' : Nat} {v v' : Value} {l : List (Nat × Nat × Value)} (h : Kp w ((b, o, v) :: (b', o', v') :: l)) :
    (w.cell? ⟨b, o, none⟩ = some v ∧ w.frozen? ⟨b, o, none⟩ = false) ∧ w.cell? ⟨b', o', none⟩ = some v' ∧ w.frozen? ⟨b', o', none⟩ = false := ⟨h.hd, h.tl.hd⟩

/-- a world on the way: below B it is as w was, and it has these cells -/
def Rg (B : Nat) (w wx : World) (l : List (Nat × Nat × Value)) : Prop := Below B w wx ∧ B ≤ wx.heap.size ∧ Kp wx l
theorem Rg.step {B : Nat} {w w0 w1 : World} {l : List (Nat × Nat × Value)} (h : Rg B w w0 l) (hb : Below w0.heap.size w0 w1) : Rg B w w1 l :=
  ⟨h.1.trans (hb.mono h.2.1), Nat.le_trans h.2.1 hb.size, h.2.2.below hb⟩
theorem Rg.drew {B : Nat} {w w0 : World} {l : List (Nat × Nat × Value)} (h : Rg B w w0 l) : Rg B w w0.drew l := ⟨h.1.drew, h.2.1, h.2.2⟩
theorem Rg.kp {B : Nat} {w w0 : World} {l : List (Nat × Nat × Value)} (h : Rg B w w0 l) : Kp w0 l := h.2.2
theorem Rg.bel {B : Nat} {w w0 : World} {l : List (Nat × Nat × Value)} (h : Rg B w w0 l) : Below B w w0 := h.1
theorem Rg.sub {B : Nat} {w w0 : World} {l l' : List (Nat × Nat × Value)} (h : Rg B w w0 l) (hs : ∀ x ∈ l', x ∈ l) : Rg B w w0 l' := ⟨h.1, h.2.1, fun x hx => h.2.2 x (hs x hx)⟩
theorem Rg.set {B : Nat} {w w0 : World} {b o : Nat} {v u : Value} {l : List (Nat × Nat × Value)} (h : Rg B w w0 ((b, o, v) :: l)) (hB : B ≤ b) (hne : ∀ x ∈ l, ¬ (x.1 = b ∧ x.2.1 = o)) :
    Rg B w (w0.setCell ⟨b, o, none⟩ u) ((b, o, u) :: l) := by
  obtain ⟨hc, hf⟩ := h.2.2.hd
  have hl := h.2.2.lt
  refine ⟨h.1.setCell hB u, by simpa [World.setCell] using h.2.1, fun x hx => ?_⟩
  rcases List.mem_cons.1 hx with rfl | hx
  · refine ⟨by simpa [World.setCell] using hl, ?_, ?_⟩
    · go_simp
    · simpa using hf
  · obtain ⟨a, c, d⟩ := h.2.2 x (List.mem_cons_of_mem _ hx)
    refine ⟨by simpa [World.setCell] using a, ?_, by simpa using d⟩
    rw [World.cell?_setCell_other _ _ _ _ (fun e => hne x hx (by injection e with e1 e2; exact ⟨e1.symm, e2.symm⟩))]
    exact c
theorem Kp.alloc {w : World} {l : List (Nat × Nat × Value)} (h : Kp w l) (o : Obj) : Kp (w.alloc o) l := h.below ((Below.refl _ _).alloc (Nat.le_refl _) _)
theorem Rg.alloc {B : Nat} {w w0 : World} {l : List (Nat × Nat × Value)} (h : Rg B w w0 l) (o : Obj) : Rg B w (w0.alloc o) l := h.step ((Below.refl _ _).alloc (Nat.le_refl _) _)
/-- the first cell goes to the end -/
theorem Rg.turn {B : Nat} {w w0 : World} {x : Nat × Nat × Value} {l : List (Nat × Nat × Value)} (h : Rg B w w0 (x :: l)) : Rg B w w0 (l ++ [x]) :=
  h.sub fun y hy => by rcases List.mem_append.1 hy with h | h; exact List.mem_cons_of_mem _ h; simp at h; subst h; exact List.mem_cons_self ..

/-- what a cell holds -/
def cval (w : World) (a : Addr) : Value := (w.cell? a).getD (.int .i64 0)
theorem cval_of {w : World} {a : Addr} {v : Value} (h : w.cell? a = some v) : w.cell? a = some (cval w a) := by unfold cval; rw [h]; rfl

/-- a world on the way: below it is as w was, these cells stay, and the cells of block g may be written -/
def Og (B g n : Nat) (w wx : World) (l : List (Nat × Nat × Value)) : Prop :=
  Rg B w wx l ∧ B ≤ g ∧ (∀ x ∈ l, x.1 ≠ g) ∧ g < wx.heap.size ∧ ∀ o, o < n → (∃ v, wx.cell? ⟨g, o, none⟩ = some v) ∧ wx.frozen? ⟨g, o, none⟩ = false
theorem Og.step {B g n : Nat} {w w0 w1 : World} {l : List (Nat × Nat × Value)} (h : Og B g n w w0 l) (hb : Below w0.heap.size w0 w1) : Og B g n w w1 l := by
  obtain ⟨hc, hf⟩ := bcell hb
  obtain ⟨a, b, c, d, e⟩ := h
  refine ⟨a.step hb, b, c, Nat.lt_of_lt_of_le d hb.size, fun o ho => ?_⟩
  obtain ⟨⟨v, hv⟩, f⟩ := e o ho
  exact ⟨⟨v, (hc _ _ d).trans hv⟩, (hf _ _ d).trans f⟩
theorem Og.drew {B g n : Nat} {w w0 : World} {l : List (Nat × Nat × Value)} (h : Og B g n w w0 l) : Og B g n w w0.drew l := ⟨h.1.drew, h.2.1, h.2.2.1, h.2.2.2.1, h.2.2.2.2⟩
theorem Og.set {B g n : Nat} {w w0 : World} {l : List (Nat × Nat × Value)} (h : Og B g n w w0 l) (o : Nat) (u : Value) : Og B g n w (w0.setCell ⟨g, o, none⟩ u) l := by
  obtain ⟨⟨a1, a2, a3⟩, b, c, d, e⟩ := h
  refine ⟨⟨a1.setCell b u, by simpa [World.setCell] using a2, fun x hx => ?_⟩, b, c, by simpa [World.setCell] using d, fun o' ho => ?_⟩
  · obtain ⟨p, q, r⟩ := a3 x hx
    refine ⟨by simpa [World.setCell] using p, ?_, by simpa using r⟩
    rw [World.cell?_setCell_other _ _ _ _ (fun e => c x hx (by injection e with e1 e2; exact e1.symm))]
    exact q
  · obtain ⟨⟨v, hv⟩, f⟩ := e o' ho
    refine ⟨?_, by simpa using f⟩
    by_cases ho' : o' = o
    · subst ho'
      exact ⟨u, by go_simp⟩
    · refine ⟨v, ?_⟩
      rw [World.cell?_setCell_other _ _ _ _ (fun e => ho' (by injection e with e1 e2; exact e2.symm))]
      exact hv
theorem Og.bel {B g n : Nat} {w w0 : World} {l : List (Nat × Nat × Value)} (h : Og B g n w w0 l) : Below B w w0 := h.1.1
theorem Og.kp {B g n : Nat} {w w0 : World} {l : List (Nat × Nat × Value)} (h : Og B g n w w0 l) : Kp w0 l := h.1.kp
theorem Og.own {B g n : Nat} {w w0 : World} {l : List (Nat × Nat × Value)} (h : Og B g n w w0 l) (o : Nat) (ho : o < n) : w0.cell? ⟨g, o, none⟩ = some (cval w0 ⟨g, o, none⟩) ∧ w0.frozen? ⟨g, o, none⟩ = false := by
  obtain ⟨⟨v, hv⟩, f⟩ := h.2.2.2.2 o ho
  exact ⟨cval_of hv, f⟩

end Go.Proofs.Ytccjeclncmogiaa
