/-
  A plan that is made in its box, with a row that may be there already.
  Conditions: none.
-/
import Derived.Test.YtgndbhgpdcelpaaDoorCv21
namespace Go.Proofs.YtgndbhgpdcelpaaDoor
set_option maxRecDepth 100000
open Go.RowKit Go.Joins Go.ChangeShapes Go.WideShapes
set_option linter.unusedVariables false
set_option linter.unusedSimpArgs false

/-- a plan in its box g, its instructions of the call's own, from b on -/
structure QT (b : Nat) (w3 wr : World) (g : Nat) (tb : ByteArray) (v : Value) (L : List Ins) : Prop where
  bx : Bx wr g #[.string tb, v] 25
  own : OwR KI wr b v L
  fr : Frm (fun k => k = g ∨ b ≤ k) w3 wr
  ne : v.ownBlock ≠ some g
  hb : b ≤ w3.heap.size
theorem QT.below {b : Nat} {w3 wr w1 : World} {g : Nat} {tb : ByteArray} {v : Value} {L : List Ins} (h : QT b w3 wr g tb v L) (hb : Below wr.heap.size wr w1) : QT b w3 w1 g tb v L := ⟨h.bx.below hb, h.own.below hb, h.fr.step hb, h.ne, h.hb⟩
theorem QT.old {b : Nat} {w3 wr : World} {g : Nat} {tb : ByteArray} {v : Value} {L : List Ins} (h : QT b w3 wr g tb v L) {g' : Nat} {cs : Array Value} {T : TypeId} (hb : Bx w3 g' cs T) (hne : g' ≠ g) (hlt : g' < b) : Bx wr g' cs T := (h.fr.block g' hb.lt (fun e => by rcases e with e | e <;> omega)).trans hb
theorem QT.bel {b : Nat} {w3 wr w : World} {g : Nat} {tb : ByteArray} {v : Value} {L : List Ins} (h : QT b w3 wr g tb v L) (hw : Below w.heap.size w w3) (hg : w.heap.size ≤ g) (hb : w.heap.size ≤ b) : Below w.heap.size w wr := hw.trans (h.fr.below (fun k hk => by rcases hk with hk | hk <;> omega) hw.size)
theorem QT.mid {b : Nat} {w3 wn w6 : World} {g : Nat} {tb : ByteArray} {v : Value} {L : List Ins} (h : QT b w3 wn g tb v L) (hg : wn.grownBy w6 v.ownBlock) : Bx w6 g #[.string tb, v] 25 :=
  (hg.block g h.bx.lt (fun e => h.ne e.symm)).trans h.bx
theorem QT.push {b : Nat} {w3 wn w6 : World} {g : Nat} {tb : ByteArray} {v v' : Value} {L L' : List Ins} (h : QT b w3 wn g tb v L) (ho : OwR KI w6 b v' L') (hg : wn.grownBy w6 v.ownBlock) (hn : NewR wn v v') : QT b w3 (w6.setCell ⟨g, 1, none⟩ v') g tb v' L' := by
  have hf : Frm (fun k => k = g ∨ b ≤ k) w3 w6 := h.fr.grown hg (fun k hk => .inl (.inr (h.own.lt hk).1))
  have hm := h.mid hg
  have hs : Frm (fun k => k = g) w6 (w6.setCell ⟨g, 1, none⟩ v') := Frm.set1 (F := fun k => k = g) w6 rfl 1 v'
  have hne : v'.ownBlock ≠ some g := fun e => by
    rcases hn g e with h1 | h1
    · exact h.ne h1
    · have := h.bx.lt
      omega
  refine ⟨box_set hm 1 v', ho.step hs (fun k hk e => ?_), hf.trans hs (fun k hk => .inl (.inl hk)), hne, h.hb⟩
  have e1 : k = g := e
  subst e1
  exact hne hk
theorem QT.start {w3 : World} {g : Nat} {tb : ByteArray} (hb : Bx w3 g #[.string tb, .slice none 0 0] 25) : QT w3.heap.size w3 w3 g tb (.slice none 0 0) [] := ⟨hb, OwR.nil _ _, Frm.refl _ _, (fun e => by cases e), Nat.le_refl _⟩
theorem QT.one {w8 w10 : World} {g : Nat} {tb : ByteArray} {x : Ins} {c : Nat} (ho : OwR KI w10 w8.heap.size (.slice (some ⟨w8.heap.size, 0, none⟩) 1 c) [x]) (hb : Bx w10 g #[.string tb, .slice (some ⟨w8.heap.size, 0, none⟩) 1 c] 25) (hne : w8.heap.size ≠ g) (hs : w8.heap.size ≤ w10.heap.size) : QT w8.heap.size w10 w10 g tb (.slice (some ⟨w8.heap.size, 0, none⟩) 1 c) [x] :=
  ⟨hb, ho, Frm.refl _ _, fun e => by simp only [Value.ownBlock, Option.some.injEq] at e; exact hne e, hs⟩
theorem and3i (z : Int) : ∃ m : Nat, m < 4 ∧ bits .and .i64 z 3 = (m : Int) := by
  refine ⟨(BitVec.ofInt 64 z &&& BitVec.ofInt 64 3).toNat, ?_, ?_⟩
  · rw [BitVec.toNat_and]
    exact Nat.lt_of_le_of_lt Nat.and_le_right (by decide)
  · have h : (BitVec.ofInt 64 z &&& BitVec.ofInt 64 3).toNat < 4 := by
      rw [BitVec.toNat_and]
      exact Nat.lt_of_le_of_lt Nat.and_le_right (by decide)
    generalize hx : (BitVec.ofInt 64 z &&& BitVec.ofInt 64 3).toNat = x at h
    refine Eq.trans (congrArg (fun n : Nat => IntKind.i64.wrap (n : Int)) hx) ?_
    show IntKind.i64.wrap (x : Int) = (x : Int)
    rw [IntKind.wrap_i64]
    omega
/-- the box of an instruction made strong -/
theorem strong_box {wr wz : World} {x : Ins} (hb : Below wr.heap.size wr wz) (h : Bx wz wr.heap.size x.enc.toArray 33) (hs : strong x = { x with mode := 6, part := 6 }) :
    Bx ((wz.setCell ⟨wr.heap.size, 3, none⟩ (.int .i64 6)).setCell ⟨wr.heap.size, 4, none⟩ (.int .i64 6)) wr.heap.size (strong x).enc.toArray 33 ∧ Below wr.heap.size wr ((wz.setCell ⟨wr.heap.size, 3, none⟩ (.int .i64 6)).setCell ⟨wr.heap.size, 4, none⟩ (.int .i64 6)) := by
  refine ⟨?_, Below.setCell (p := ⟨wr.heap.size, 4, none⟩) (Below.setCell (p := ⟨wr.heap.size, 3, none⟩) hb (Nat.le_refl _) _) (Nat.le_refl _) _⟩
  have h2 := box_set (box_set h 3 (.int .i64 6)) 4 (.int .i64 6)
  rw [hs]
  exact h2
theorem shift_box {wr wz : World} {x : Ins} (hb : Below wr.heap.size wr wz) (h : Bx wz wr.heap.size x.enc.toArray 33) (hs : shift x = { x with jt := x.jt + 1 }) :
    Bx (wz.setCell ⟨wr.heap.size, 2, none⟩ (.int .i64 (x.jt + 1))) wr.heap.size (shift x).enc.toArray 33 ∧ Below wr.heap.size wr (wz.setCell ⟨wr.heap.size, 2, none⟩ (.int .i64 (x.jt + 1))) := by
  refine ⟨?_, Below.setCell (p := ⟨wr.heap.size, 2, none⟩) hb (Nat.le_refl _) _⟩
  have h2 := box_set h 2 (.int .i64 (x.jt + 1))
  rw [hs]
  exact h2
theorem map_snoc {f : Ins → Ins} {q : List Ins} {k : Nat} {x : Ins} (h : q[k]? = some x) : (q.take (k + 1)).map f = (q.take k).map f ++ [f x] := by rw [take_snoc' h, List.map_append]; rfl
/-- where a checked plan's jumps go -/
theorem ck_place {tb : ByteArray} {q : List Ins} (h : ckB tb q = true) {x : Ins} (hx : x ∈ q) (ho : (x.op == 3 || x.op == 4 || x.op == 8) = true) : 0 ≤ x.jt ∧ x.jt < q.length := by
  have hw := (ck_parts h).2.1 x hx
  unfold wellB fitB at hw
  simp only [Bool.and_eq_true] at hw
  have h2 := hw.2
  have key : plB q.length x.jt = true := by
    cases c3 : x.op == 3 with
    | true =>
      rw [beq_iff_eq] at c3
      rw [c3] at h2
      simp only [show ((3 : Int) == 1) = false from rfl, show ((3 : Int) == 2) = false from rfl, show ((3 : Int) == 3) = true from rfl, if_true, Bool.false_eq_true, if_false, Bool.and_eq_true] at h2
      exact h2.2
    | false =>
      cases c4 : x.op == 4 with
      | true =>
        rw [beq_iff_eq] at c4
        rw [c4] at h2
        simp only [show ((4 : Int) == 1) = false from rfl, show ((4 : Int) == 2) = false from rfl, show ((4 : Int) == 3) = false from rfl, show ((4 : Int) == 4) = true from rfl, if_true, Bool.false_eq_true, if_false, Bool.and_eq_true] at h2
        exact h2.1.2
      | false =>
        rw [c3, c4] at ho
        simp only [Bool.false_or] at ho
        rw [beq_iff_eq] at ho
        rw [ho] at h2
        exact h2
  unfold plB at key
  simpa using key

end Go.Proofs.YtgndbhgpdcelpaaDoor
