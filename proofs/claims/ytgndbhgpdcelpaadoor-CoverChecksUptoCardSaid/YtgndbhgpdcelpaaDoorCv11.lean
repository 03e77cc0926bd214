/-
  Whether a cursor's reading is covered: contracts over the translation.
  Conditions: the row lies in memory.
-/
import Derived.Test.YtgndbhgpdcelpaaDoorCv10
namespace Go.Proofs.YtgndbhgpdcelpaaDoor
set_option maxRecDepth 100000
open Go.RowKit Go.Joins Go.ChangeShapes Go.WideShapes
set_option linter.unusedVariables false
set_option linter.unusedSimpArgs false

/-- another table, or another index? -/
theorem othp (w : World) (g1 g2 : Nat) (t : ByteArray) (k : Int) (h1 : Bx w g1 #[.string t] 9) (h2 : Bx w g2 #[.int .i64 k] 3) :
    PrB 41 #[.pointer (some ⟨g1, 0, none⟩), .pointer (some ⟨g2, 0, none⟩)] (fun x => !(x.tab.toList == t.toList && x.idx == k)) w := by
  intro W x hW
  obtain ⟨wb, hwb⟩ : ∃ wb, W.alloc (.cells x.enc.toArray 33) = wb := ⟨_, rfl⟩
  have hbi : Bx wb W.heap.size x.enc.toArray 33 := by rw [← hwb]; exact Bx.new _ _ _
  have hab : Below W.heap.size W wb := by rw [← hwb]; exact (Below.refl _ _).alloc (Nat.le_refl _) _
  have HBB := Lib.hid hab
  have hwB := btr hW hab hW.size
  have y1 : wb.cell? ⟨g1, 0, none⟩ = some (.string t) := (h1.below hwB).cell rfl
  have y2 : wb.cell? ⟨g2, 0, none⟩ = some (.int .i64 k) := (h2.below hwB).cell rfl
  obtain ⟨-, -, -, -, -, f5, f6⟩ := n14 hbi
  rw [show x.enc.toArray = #[.int .i64 x.op, .int .i64 x.c, .int .i64 x.jt, .int .i64 x.mode, .int .i64 x.part, .string x.tab, .int .i64 x.idx, .slice x.lo.a x.lo.n x.lo.c, .slice x.hi.a x.hi.n x.hi.c, .bool x.lx, .bool x.hx, .slice x.e.a x.e.n x.e.c, .int .i64 x.n, .slice x.ds.a x.ds.n x.ds.c] from rfl] at hwb
  show Calls Tryd.prog _ #[x.val, .pointer (some ⟨g1, 0, none⟩), .pointer (some ⟨g2, 0, none⟩)] W fun e w' => e = .returned (.bool (!(x.tab.toList == t.toList && x.idx == k))) ∧ Below W.heap.size W w'
  unfold Ins.val
  clear hbi hab hwB h1 h2 hW
  go_enter Tryd.func41, Tryd.ntmps41
  cases c1 : x.tab.toList == t.toList with
  | false =>
    go_wp2_with fail
    go_ret
    exact ⟨rfl, HBB.out⟩
  | true =>
    cases c2 : x.idx == k with
    | false =>
      have c3 : (x.idx != k) = true := by simp [bne, c2]
      go_wp2_with fail
      go_ret
      exact ⟨rfl, HBB.out⟩
    | true =>
      have c3 : (x.idx != k) = false := by simp [bne, c2]
      go_wp2_with fail
      go_ret
      exact ⟨rfl, HBB.out⟩
/-- is all that a cursor reads behind a lock? -/
def ccB (q : List Ins) (c : Int) : Bool :=
  match q.filter (ocB 2 c) with
  | [] => (q.filter (ocB 3 c)).isEmpty
  | o :: r => ((o :: r).all fun x => x.tab.toList == o.tab.toList && x.idx == o.idx) &&
    (if o.idx == -1 then cvI (mdL o.tab q 0) 3 else decide (0 ≤ o.idx) && cvI (mdL o.tab q 0) 1 && ((q.filter (ocB 3 c)).all fun x => cvI x.mode 3) && ((q.filter (ocB 3 c)).all fun x => cvI x.part 3))

end Go.Proofs.YtgndbhgpdcelpaaDoor
