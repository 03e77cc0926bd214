/-
  Lists of values that the call has made: as lists of (kind, number, text).
  Conditions: none.
-/
import Derived.Test.YtpknoclnmhomiabByt1
import Derived.Test.YtpknoclnmhomiabVal10
namespace Go.Proofs.Ytpknoclnmhomiab
open Go.RowKit Go.Joins Go.ChangeShapes Go.WideShapes
set_option linter.unusedVariables false

abbrev Em : ByteArray := ⟨#[]⟩
/-- a value: its kind, number, text -/
abbrev Vt := Int × Int × ByteArray
def vlcells : List Vt → List Value
  | [] => []
  | v :: r => [.int .i64 v.1, .int .i64 v.2.1, .string v.2.2] ++ vlcells r
theorem vlcells_length (l : List Vt) : (vlcells l).length = l.length * 3 := by
  induction l with
  | nil => rfl
  | cons v r ih => simp [vlcells, ih]; omega
theorem vlcells_app (l r : List Vt) : vlcells (l ++ r) = vlcells l ++ vlcells r := by
  induction l with
  | nil => rfl
  | cons v l ih => simp only [List.cons_append, vlcells, ih, List.append_assoc]
theorem vlcells_one (l : List Vt) : ∀ u ∈ vlcells l, u.oneCell' = true := by
  induction l with
  | nil => intro u hu; cases hu
  | cons v l ih =>
    intro u hu
    unfold vlcells at hu
    rcases List.mem_append.1 hu with h | h
    · simp only [List.mem_cons, List.not_mem_nil, or_false] at h
      rcases h with rfl | rfl | rfl <;> rfl
    · exact ih u h
theorem vlcells_at (l : List Vt) (i : Nat) (v : Vt) (h : l[i]? = some v) : (vlcells l)[i * 3]? = some (.int .i64 v.1) ∧ (vlcells l)[i * 3 + 1]? = some (.int .i64 v.2.1) ∧ (vlcells l)[i * 3 + 2]? = some (.string v.2.2) := by
  induction l generalizing i with
  | nil => simp at h
  | cons u l ih =>
    unfold vlcells
    cases i with
    | zero =>
      simp only [List.getElem?_cons_zero, Option.some.injEq] at h
      subst h
      exact ⟨rfl, rfl, rfl⟩
    | succ i =>
      rw [List.getElem?_cons_succ] at h
      obtain ⟨h1, h2, h3⟩ := ih i h
      have e : ∀ j, ([Value.int .i64 u.1, Value.int .i64 u.2.1, Value.string u.2.2] ++ vlcells l)[(i + 1) * 3 + j]? = (vlcells l)[i * 3 + j]? := by
        intro j
        rw [List.getElem?_append_right (by simp; omega)]
        congr 1
        simp
        omega
      exact ⟨(e 0).trans h1, (e 1).trans h2, (e 2).trans h3⟩

def OwV (w : World) (base : Nat) (v : Value) (l : List Vt) : Prop := w.ownsRow base 43 3 v l.length (vlcells l) ∧ v ≠ .slice none 0 0
theorem OwV.alloc {w : World} {base : Nat} {v : Value} {l : List Vt} (h : OwV w base v l) (o : Obj) : OwV (w.alloc o) base v l := ⟨h.1.alloc o, h.2⟩
theorem OwV.below {w w' : World} {base : Nat} {v : Value} {l : List Vt} (h : OwV w base v l) (hb : Below w.heap.size w w') : OwV w' base v l :=
  ⟨h.1.kept (row := none) ⟨hb.os, hb.tape, hb.output, hb.size, fun i hi _ => hb.block i hi⟩ (by cases v.ownBlock <;> simp), h.2⟩
theorem OwV.le {w : World} {base base' : Nat} {v : Value} {l : List Vt} (h : OwV w base v l) (hb : base' ≤ base) : OwV w base' v l := ⟨ownsRow_le h.1 hb, h.2⟩
theorem OwV.lt {w : World} {base : Nat} {v : Value} {l : List Vt} (h : OwV w base v l) : ∀ k, v.ownBlock = some k → base ≤ k ∧ k < w.heap.size := fun k hk => h.1.lt k hk
/-- a store into a block that isn't its own -/
theorem OwV.set {w : World} {base : Nat} {v : Value} {l : List Vt} (h : OwV w base v l) {g o : Nat} (hg : v.ownBlock ≠ some g) (u : Value) : OwV (w.setCell ⟨g, o, none⟩ u) base v l := by
  refine ⟨h.1.kept (row := some g) ⟨rfl, rfl, rfl, by simp [World.setCell], fun k hk hne => Below.heap_setCell _ _ _ _ (fun e => hne (by rw [e]))⟩ (.inr hg), h.2⟩
theorem OwV.form {w : World} {base : Nat} {v : Value} {l : List Vt} (h : OwV w base v l) : ∃ g cap, v = .slice (some ⟨g, 0, none⟩) l.length cap ∧ base ≤ g ∧ g < w.heap.size ∧ ∀ j u, (vlcells l)[j]? = some u → w.cell? ⟨g, j, none⟩ = some u := by
  obtain ⟨⟨h1, h2⟩, h3⟩ := h
  rcases h2 with ⟨e, _⟩ | ⟨g, cap, cur, e, hb, hg, hn, hc, hs, ht⟩
  · exact absurd e h3
  · refine ⟨g, cap, e, hb, (Array.getElem?_eq_some_iff.1 hg).1, fun j u hj => ?_⟩
    rw [cell_of_block hg j]
    rw [← ht, List.getElem?_take] at hj
    split at hj
    · rw [← Array.getElem?_toList]; exact hj
    · cases hj
def kF (l : List Vt) (i : Nat) : Int := (l.getD i (0, 0, Em)).1
def nF (l : List Vt) (i : Nat) : Int := (l.getD i (0, 0, Em)).2.1
def sF (l : List Vt) (i : Nat) : ByteArray := (l.getD i (0, 0, Em)).2.2
theorem OwV.isV {w : World} {base : Nat} {v : Value} {l : List Vt} (h : OwV w base v l) : ∃ g cap, v = .slice (some ⟨g, 0, none⟩) l.length cap ∧ base ≤ g ∧ IsV w g 0 l.length (kF l) (nF l) (sF l) := by
  obtain ⟨g, cap, e, hb, hg, hc⟩ := h.form
  refine ⟨g, cap, e, hb, ⟨fun _ => hg, ?_, ?_, ?_⟩⟩
  all_goals
    intro i hi
    have hx : l[i]? = some (l[i]'hi) := List.getElem?_eq_getElem hi
    obtain ⟨h1, h2, h3⟩ := vlcells_at l i _ hx
    rw [Nat.zero_add]
  · rw [hc _ _ h1]; simp [kF, List.getD_eq_getElem?_getD, hx]
  · rw [hc _ _ h2]; simp [nF, List.getD_eq_getElem?_getD, hx]
  · rw [hc _ _ h3]; simp [sF, List.getD_eq_getElem?_getD, hx]

/-- append onto a list of values of the call's own -/
theorem wp_pushV {ops : Array Oper} {rest : List Oper} {o : Oper} {a : Act} {w : World} {Q : Exit → Act → World → Prop} (hgd : o.guard = none) (s x : Operand)
    (ho : o.op = .call { callee := .builtin .append, args := #[s, x], argTypes := #[23, 23] })
    (base : Nat) (v : Value) (l : List Vt) (hs : a.eval s = v) (hown : OwV w base v l) (ad : Addr) (m c : Nat) (r : List Vt) (hx : a.eval x = .slice (some ad) m c) (hm : r.length = m)
    (hnews : ∀ j u, (vlcells r)[j]? = some u → w.cell? (ad.add j) = some u) (hsz : l.length + m ≤ 2199023255552) (hbase : base ≤ w.heap.size)
    (h : ∀ v' w', OwV w' base v' (l ++ r) → w.grownBy w' v.ownBlock → wpList Try.prog ops Q rest (a.put o.dst v') w') : wpList Try.prog ops Q (o :: rest) a w := by
  obtain ⟨i0, hi, hz0, hz1, hz2⟩ := info_parts infoV
  refine wpList_append_own w hgd s x _ ho base 43 i0 _ 3 32 Try.underlying23 hi hz0 hz1 hz2 rfl (by decide) v l.length (vlcells l) hs hown.1 ad m c (vlcells r) hx (by rw [vlcells_length, hm]) hnews (vlcells_one r) (by unfold maxLen; omega) (by omega) hbase ?_
  intro v' w' h1 h2 h3
  refine h v' w' ⟨?_, fun e => hown.2 (h3.1 e).1⟩ h2
  rw [vlcells_app, List.length_append, hm]
  exact h1
theorem newsV (w : World) (k n : Int) (s : ByteArray) : ∀ j u, (vlcells [(k, n, s)])[j]? = some u → (w.alloc (.cells #[.int .i64 k, .int .i64 n, .string s] 43)).cell? ((⟨w.heap.size, 0, none⟩ : Addr).add j) = some u :=
  World.news_of_block (cs := #[.int .i64 k, .int .i64 n, .string s]) (heap_alloc_new w _)

/-- the state of a loop that makes a list of values -/
structure EnV (W w : World) (B : Nat) (v : Value) (l : List Vt) : Prop where
  own : OwV w B v l
  bel : Below B W w
  sz : B ≤ w.heap.size
theorem EnV.alloc {W w : World} {B : Nat} {v : Value} {l : List Vt} (h : EnV W w B v l) (o : Obj) : EnV W (w.alloc o) B v l := ⟨h.own.alloc o, h.bel.alloc h.sz o, by simp; exact Nat.le_succ_of_le h.sz⟩
theorem EnV.step {W w w' : World} {B : Nat} {v : Value} {l : List Vt} (h : EnV W w B v l) (hb : Below w.heap.size w w') : EnV W w' B v l := ⟨h.own.below hb, h.bel.trans (hb.mono h.sz), Nat.le_trans h.sz hb.size⟩
theorem EnV.push {W w w' : World} {B : Nat} {v v' : Value} {l l' : List Vt} (h : EnV W w B v l) (ho : OwV w' B v' l') (hg : w.grownBy w' v.ownBlock) : EnV W w' B v' l' :=
  ⟨ho, h.bel.grown hg h.sz (fun k hk => (h.own.lt k hk).1), Nat.le_trans h.sz hg.size⟩
theorem EnV.set {W w : World} {B : Nat} {v : Value} {l : List Vt} (h : EnV W w B v l) {g o : Nat} (hB : B ≤ g) (hg : v.ownBlock ≠ some g) (u : Value) : EnV W (w.setCell ⟨g, o, none⟩ u) B v l :=
  ⟨h.own.set hg u, h.bel.setCell hB u, by simpa [World.setCell] using h.sz⟩
theorem EnV.made (w : World) (o : Obj) : EnV w ((w.alloc (.cells #[] 43)).alloc o) w.heap.size (.slice (some ⟨w.heap.size, 0, none⟩) 0 0) [] :=
  EnV.alloc ⟨⟨World.ownsRow_made w #[] 0 (Nat.le_refl _) (by decide) rfl, by simp⟩, (Below.refl _ _).alloc (Nat.le_refl _) _, by simp⟩ o

/-- a box whose number is being written -/
def BoxX (w : World) (g : Nat) (k : Int) (s : ByteArray) : Prop := ∃ x, w.heap[g]? = some (.cells #[.int .i64 k, x, .string s] 43 (0, 0))
theorem BoxV.boxX {w : World} {g : Nat} {k n : Int} {s : ByteArray} (h : BoxV w g k n s) : BoxX w g k s := ⟨_, h⟩
theorem BoxX.set {w : World} {g : Nat} {k : Int} {s : ByteArray} (h : BoxX w g k s) (u : Value) : BoxX (w.setCell ⟨g, 1, none⟩ u) g k s := by
  obtain ⟨x, hx⟩ := h
  exact ⟨u, by rw [block_setCell hx u]; rfl⟩
theorem BoxX.setV {w : World} {g : Nat} {k : Int} {s : ByteArray} (h : BoxX w g k s) (n : Int) : BoxV (w.setCell ⟨g, 1, none⟩ (.int .i64 n)) g k n s := by
  obtain ⟨x, hx⟩ := h
  show _ = _
  rw [block_setCell hx _]
  rfl
theorem BoxV.setT {w : World} {g : Nat} {k n : Int} {s : ByteArray} (h : BoxV w g k n s) (t : ByteArray) : BoxV (w.setCell ⟨g, 2, none⟩ (.string t)) g k n t := by
  show _ = _
  rw [block_setCell h _]
  rfl
def bval (w : World) (g o : Nat) : Value := (w.cell? ⟨g, o, none⟩).getD (.int .i64 0)
theorem BoxX.cells {w : World} {g : Nat} {k : Int} {s : ByteArray} (h : BoxX w g k s) : w.cell? ⟨g, 0, none⟩ = some (.int .i64 k) ∧ w.cell? ⟨g, 1, none⟩ = some (bval w g 1) ∧ w.cell? ⟨g, 2, none⟩ = some (.string s) ∧ w.frozen? ⟨g, 1, none⟩ = false := by
  obtain ⟨x, hx⟩ := h
  have h1 : w.cell? ⟨g, 1, none⟩ = some x := by rw [cell_of_block hx]; rfl
  refine ⟨by rw [cell_of_block hx]; rfl, ?_, by rw [cell_of_block hx]; rfl, unfrozen_of_block hx 1⟩
  unfold bval
  rw [h1]
  rfl
theorem BoxV.frozen {w : World} {g : Nat} {k n : Int} {s : ByteArray} (h : BoxV w g k n s) (o : Nat) : w.frozen? ⟨g, o, none⟩ = false := unfrozen_of_block h o
theorem BoxX.drew {w : World} {g : Nat} {k : Int} {s : ByteArray} (h : BoxX w g k s) : BoxX w.drew g k s := h
theorem EnV.drew {W w : World} {B : Nat} {v : Value} {l : List Vt} (h : EnV W w B v l) : EnV W w.drew B v l := ⟨h.own.below ⟨rfl, rfl, rfl, Nat.le_refl _, fun _ _ => rfl⟩, h.bel.drew, h.sz⟩

theorem samerow_all (a a' : Option Addr) (b off b' off' m cap cap' : Nat) (kf nf : Nat → Int) (sf : Nat → ByteArray) (hm : m ≤ maxLen) (w : World)
    (ha : m = 0 ∨ a = some ⟨b, off, none⟩) (ha' : m = 0 ∨ a' = some ⟨b', off', none⟩) (hX : IsV w b off m kf nf sf) (hA : IsV w b' off' m kf nf sf) :
    Calls Try.prog 16 #[.slice a m cap, .slice a' m cap'] w fun e w' => e = .returned (.bool true) ∧ Below w.heap.size w w' := by
  by_cases hz : m = 0
  · subst hz
    exact samerow_zero _ _ _ _ w
  · obtain rfl : a = some ⟨b, off, none⟩ := by rcases ha with h | h; omega; exact h
    obtain rfl : a' = some ⟨b', off', none⟩ := by rcases ha' with h | h; omega; exact h
    exact samerow_some b off m cap b' off' cap' kf nf sf hm w hX hA

theorem rowBelow {w w' : World} {base : Nat} {e : TypeId} {size : Nat} {v : Value} {n : Nat} {xs : List Value} (h : w.ownsRow base e size v n xs) (hb : Below w.heap.size w w') : w'.ownsRow base e size v n xs :=
  h.kept (row := none) ⟨hb.os, hb.tape, hb.output, hb.size, fun i hi _ => hb.block i hi⟩ (by cases v.ownBlock <;> simp)
/-- on from a world that keeps what was there -/
theorem stepB {w0 w1 w2 : World} (h : Below w0.heap.size w0 w1) (hb : Below w1.heap.size w1 w2) : Below w0.heap.size w0 w2 := h.trans (hb.mono h.size)

end Go.Proofs.Ytpknoclnmhomiab
