/-
  Texts of mine put together, in build order.
  Conditions: as each declaration says.
-/
import Derived.Maps.RangeRun
import Derived.Maps.RangeWalk
import Derived.BigQuiet
import Derived.Test.YtelfinhpjokmdaaGreatDoorZn6
namespace Go.Proofs.YtelfinhpjokmdaaGreatDoor
set_option maxRecDepth 100000
open Go.RowKit Go.Joins Go.ChangeShapes Go.WideShapes
open Go.MapKept
open Go.ChangeMaps (setBlock)
set_option linter.unusedVariables false
set_option linter.unnecessarySimpa false
set_option linter.unusedSimpArgs false

/-- a range over a map under way: which keys are left, and how many -/
def IRg (w : World) (b r : Nat) (f : Int → Option Value) (left : Int → Bool) (cnt : Nat) : Prop :=
  ∃ es clock since seen c0, w.heap[b]? = some (.map es clock) ∧ Stamped es clock ∧ (∀ x ∈ es.toList, ∃ k, x.key = ik k) ∧ (∀ k v, f k = some v ↔ ∃ e ∈ es.toList, e.key = ik k ∧ e.val = v) ∧
    w.heap[r]? = some (.mapIter (some b) since seen c0) ∧ (∀ x ∈ es.toList, x.born < since) ∧ (leftOf es seen).size = cnt ∧ since ≤ c0 ∧ since ≤ clock ∧ (∀ k, left k = true ↔ ∃ x ∈ es.toList, x.key = ik k ∧ seen.contains x.born = false)
/-- how many are left, read off the world -/
def rgLeft (w : World) (b r : Nat) : Nat :=
  match w.heap[b]?, w.heap[r]? with
  | some (.map es _), some (.mapIter _ _ seen _) => (leftOf es seen).size
  | _, _ => 0
theorem IRg.left_eq {w : World} {b r : Nat} {f : Int → Option Value} {left : Int → Bool} {cnt : Nat} (h : IRg w b r f left cnt) : rgLeft w b r = cnt := by
  obtain ⟨es, clock, since, seen, c0, h1, -, -, -, h2, -, h3, -⟩ := h
  unfold rgLeft
  rw [h1, h2]
  exact h3
theorem IRg.lt {w : World} {b r : Nat} {f : Int → Option Value} {left : Int → Bool} {cnt : Nat} (h : IRg w b r f left cnt) : b < w.heap.size ∧ r < w.heap.size := by
  obtain ⟨es, clock, since, seen, c0, h1, -, -, -, h2, -⟩ := h
  exact ⟨(Array.getElem?_eq_some_iff.1 h1).1, (Array.getElem?_eq_some_iff.1 h2).1⟩
theorem IRg.ne {w : World} {b r : Nat} {f : Int → Option Value} {left : Int → Bool} {cnt : Nat} (h : IRg w b r f left cnt) : r ≠ b := by
  obtain ⟨es, clock, since, seen, c0, h1, -, -, -, h2, -⟩ := h
  rintro rfl
  rw [h1] at h2
  injection h2 with h2
  cases h2
theorem IRg.step {w w1 : World} {b r : Nat} {f : Int → Option Value} {left : Int → Bool} {cnt : Nat} {F : Bl} (h : IRg w b r f left cnt) (hf : Frm F w w1) (hb : ¬ F b) (hr : ¬ F r) : IRg w1 b r f left cnt := by
  have hl := h.lt
  obtain ⟨es, clock, since, seen, c0, h1, q1, q2, q3, h2, rest⟩ := h
  exact ⟨es, clock, since, seen, c0, (hf.heap hl.1 hb).trans h1, q1, q2, q3, (hf.heap hl.2 hr).trans h2, rest⟩
theorem IRg.key {w : World} {b r : Nat} {f : Int → Option Value} {left : Int → Bool} {cnt : Nat} (h : IRg w b r f left cnt) {k : Int} (hk : left k = true) : ∃ v, f k = some v := by
  obtain ⟨es, clock, since, seen, c0, h1, q1, q2, q3, h2, q4, q5, q6, q7, q8⟩ := h
  obtain ⟨x, hx, e, -⟩ := (q8 k).1 hk
  exact ⟨_, (q3 k x.val).2 ⟨x, hx, e, rfl⟩⟩
/-- the range begins -/
theorem IMap.range {w : World} {b n : Nat} {f : Int → Option Value} {P : Program} (h : IMap (.int .i64) ik w b f n) {t kt et : TypeId} (ht : P.underlying t = some (.map kt et)) :
    ∃ w', (Instr.range t (.map (some b))).run P w = .ok (.pointer (some ⟨w.heap.size, 0, none⟩)) w' ∧ IRg w' b w.heap.size f (fun k => (f k).isSome) n ∧ Below w.heap.size w w' := by
  have hlt := h.lt
  obtain ⟨es, clock, h1, h2, h3, h4, rfl⟩ := h
  have hb : Below w.heap.size w (w.alloc (.mapIter (some b) clock #[] clock)) := (Below.refl _ _).alloc (Nat.le_refl _) _
  refine ⟨_, run_range_map w t kt et b es clock ht h1, ⟨es, clock, clock, #[], clock, (hb.block _ hlt).trans h1, h2, h3, h4, heap_alloc_new w _, ((stamped_iff es clock).1 h2).1, ?_, Nat.le_refl _, Nat.le_refl _, fun k => ?_⟩, hb⟩
  · simp [leftOf]
  · constructor
    · intro hk
      obtain ⟨v, hv⟩ := Option.isSome_iff_exists.1 hk
      obtain ⟨e, he, e1, -⟩ := (h4 k v).1 hv
      exact ⟨e, he, e1, by simp⟩
    · rintro ⟨x, hx, e1, -⟩
      have := (h4 k x.val).2 ⟨x, hx, e1, rfl⟩
      show (f k).isSome = true
      rw [this]; rfl
/-- a step of the range -/
theorem IRg.next {w : World} {b r : Nat} {f : Int → Option Value} {left : Int → Bool} {cnt : Nat} {P : Program} (h : IRg w b r f left cnt) (ty : TypeId) :
    (cnt = 0 ∧ (∀ k, left k = false) ∧ (Instr.next (.pointer (some ⟨r, 0, none⟩)) false ty).run P w = .ok (.tuple #[.bool false]) w) ∨
    ∃ k v w' cnt', left k = true ∧ f k = some v ∧ (Instr.next (.pointer (some ⟨r, 0, none⟩)) false ty).run P w = .ok (.tuple #[.bool true, ik k, v]) w' ∧ IRg w' b r f (fun z => left z && z != k) cnt' ∧ cnt' < cnt ∧ Frm (fun k => k = r) w w' ∧
      (Instr.entry (.pointer (some ⟨r, 0, none⟩))).run P w' = .ok (.tuple #[ik k, v]) w' := by
  have hne := h.ne
  obtain ⟨es, clock, since, seen, c0, h1, q1, q2, q3, h2, q4, rfl, q6, q7, q8⟩ := h
  rcases run_next_at (P := P) w ty r b since c0 seen es clock h2 h1 q4 q6 with ⟨h0, hrun⟩ | ⟨e, he, w1, hal, hrun⟩
  · refine .inl ⟨h0, fun k => ?_, hrun⟩
    cases hk : left k with
    | false => rfl
    | true =>
      obtain ⟨x, hx, -, hs⟩ := (q8 k).1 hk
      rw [all_seen es seen h0 x hx] at hs
      cases hs
  · obtain ⟨hem, hes⟩ := mem_left he
    obtain ⟨k, hk⟩ := q2 e hem
    have hr1 : w1.heap[r]? = some (.mapIter (some b) since seen c0) := by rcases hal with rfl | rfl <;> exact h2
    have hb1 : w1.heap[b]? = some (.map es clock) := by rcases hal with rfl | rfl <;> exact h1
    have hset := heap_set (o' := .mapIter (some b) since (seen.push e.born) clock) hr1
    have hb' : (setBlock w1 r (.mapIter (some b) since (seen.push e.born) clock)).heap[b]? = some (.map es clock) := (hset.2 b (fun e1 => hne e1.symm)).trans hb1
    refine .inr ⟨k, e.val, _, _, (q8 k).2 ⟨e, hem, hk, hes⟩, (q3 k e.val).2 ⟨e, hem, hk, rfl⟩, by rw [← hk]; exact hrun,
      ⟨es, clock, since, seen.push e.born, clock, hb', q1, q2, q3, hset.1, q4, rfl, q7, q7, fun z => ?_⟩, left_shrinks es seen e he, ?_, ?_⟩
    · simp only [Bool.and_eq_true, q8, bne_iff_ne, ne_eq]
      constructor
      · rintro ⟨⟨x, hx, hxk, hxs⟩, hz⟩
        refine ⟨x, hx, hxk, ?_⟩
        rw [contains_push, hxs]
        have : x.born ≠ e.born := fun hb => by
          have := born_inj ((stamped_iff es clock).1 q1).2.1 hx hem hb
          subst this
          exact hz (ik_inj _ _ (hxk.symm.trans hk))
        simp [this]
      · rintro ⟨x, hx, hxk, hxs⟩
        rw [contains_push] at hxs
        have hx1 : seen.contains x.born = false := by cases hc : seen.contains x.born with | false => rfl | true => rw [hc] at hxs; simp at hxs
        refine ⟨⟨x, hx, hxk, hx1⟩, fun hz => ?_⟩
        subst hz
        have := IMap.uniq q1 hx hem (hxk.trans hk.symm)
        subst this
        simp at hxs
    · rcases hal with rfl | rfl <;> exact ⟨rfl, rfl, rfl, by simp [setBlock], fun i _ hi => hset.2 i hi⟩
    · rw [← hk]
      exact run_entry_at _ r b since seen es clock e hset.1 hb' hem ((stamped_iff es clock).1 q1).2.1
theorem wp_rnext {w : World} {ops : Array Oper} {rest : List Oper} {o : Oper} {a : Act} {P : Program} {Q : Exit → Act → World → Prop} (hg : o.guard = none) (it : Operand) (hop : o.op = Op.next it false) {b r : Nat} {f : Int → Option Value} {left : Int → Bool} {cnt : Nat}
    (hit : a.eval it = .pointer (some ⟨r, 0, none⟩)) (h : IRg w b r f left cnt) (hDone : cnt = 0 → (∀ k, left k = false) → wpList P ops Q rest (a.put o.dst (.tuple #[.bool false])) w)
    (hMore : ∀ k v w' cnt', left k = true → f k = some v → IRg w' b r f (fun z => left z && z != k) cnt' → cnt' < cnt → Frm (fun k => k = r) w w' → (Instr.entry (.pointer (some ⟨r, 0, none⟩))).run P w' = .ok (.tuple #[.int .i64 k, v]) w' → wpList P ops Q rest (a.put o.dst (.tuple #[.bool true, .int .i64 k, v])) w') :
    wpList P ops Q (o :: rest) a w := by
  refine wpList_plain hg fun K' hK' => ?_
  unfold Oper.wp
  rcases h.next (P := P) o.type with ⟨h0, hl, hrun⟩ | ⟨k, v, w', cnt', hl, hv, hrun, hrg, hlt, hf, hen⟩
  · simp [execOp, hop, hit, hrun, Result.andThen]
    exact hK' _ _ (hDone h0 hl)
  · simp [execOp, hop, hit, hrun, Result.andThen]
    exact hK' _ _ (hMore k v w' cnt' hl hv hrg hlt hf hen)

/-- one number set -/
def setA (A : Int → Nat) (x : Int) (n : Nat) : Int → Nat := fun z => if z = x then n else A z
/-- a map of counts -/
def CntM (w : World) (b : Nat) (A : Int → Nat) : Prop := ∃ f n, IMap (.int .i64) ik w b f n ∧ ∀ x, (f x).getD (.int .i64 0) = .int .i64 (A x : Int)
theorem CntM.lt {w : World} {b : Nat} {A : Int → Nat} (h : CntM w b A) : b < w.heap.size := by obtain ⟨f, n, h1, -⟩ := h; exact h1.lt
theorem CntM.step {w w1 : World} {b : Nat} {A : Int → Nat} {F : Bl} (h : CntM w b A) (hf : Frm F w w1) (hb : ¬ F b) : CntM w1 b A := by
  obtain ⟨f, n, h1, h2⟩ := h
  exact ⟨f, n, h1.step hf hb, h2⟩
theorem CntM.below {w w1 : World} {b : Nat} {A : Int → Nat} (h : CntM w b A) (hb : Below w.heap.size w w1) : CntM w1 b A := h.step (F := fun _ => False) (Frm.of_below hb) (fun h => h)
theorem cntm_made (w : World) (b : Nat) (hb : w.heap.size = b) : CntM (w.alloc (.map #[] 0)) b (fun _ => 0) := ⟨_, _, imap_made (.int .i64) ik w b hb, fun _ => rfl⟩
theorem CntM.look {w : World} {b : Nat} {A : Int → Nat} (h : CntM w b A) (x : Int) : (Instr.lookup 56 (.map (some b)) (.int .i64 x) false).run Tryz.prog w = .ok (.int .i64 (A x : Int)) w := by
  obtain ⟨f, n, h1, h2⟩ := h
  have := h1.look (P := Tryz.prog) (t := 56) Tryz.underlying56 Tryz.underlying3 ik_key (z := .int .i64 0) rfl x false
  rw [← h2 x]
  simpa using this
theorem CntM.put {w : World} {b : Nat} {A : Int → Nat} (h : CntM w b A) (x : Int) (z : Nat) : ∃ w', (Instr.mapUpdate 56 (.map (some b)) (.int .i64 x) (.int .i64 (z : Int))).run Tryz.prog w = .ok () w' ∧ CntM w' b (setA A x z) ∧ Frm (fun k => k = b) w w' := by
  obtain ⟨f, n, h1, h2⟩ := h
  obtain ⟨w', hr, m, g, -⟩ := h1.put (P := Tryz.prog) (t := 56) Tryz.underlying56 Tryz.underlying3 ik_key ik_inj x (.int .i64 (z : Int))
  refine ⟨w', hr, ⟨_, _, m, fun y => ?_⟩, Frm.grown (Frm.refl _ w) g (fun k hk => by injection hk with hk; exact .inl hk.symm)⟩
  unfold setA
  split
  · rfl
  · exact h2 y
end Go.Proofs.YtelfinhpjokmdaaGreatDoor

namespace Go.Proofs.YtelfinhpjokmdaaGreatDoor
set_option maxRecDepth 100000
open Go.RowKit Go.Joins Go.ChangeShapes Go.WideShapes
open Go.MapKept
set_option linter.unusedVariables false
set_option linter.unnecessarySimpa false
set_option linter.unusedSimpArgs false

theorem IRg.kinds {w : World} {b r : Nat} {f : Int → Option Value} {left : Int → Bool} {cnt : Nat} (h : IRg w b r f left cnt) : (∃ es c, w.heap[b]? = some (.map es c)) ∧ ∃ m s e c, w.heap[r]? = some (.mapIter m s e c) := by
  obtain ⟨es, clock, since, seen, c0, h1, -, -, -, h2, -⟩ := h
  exact ⟨⟨_, _, h1⟩, ⟨_, _, _, _, h2⟩⟩
/-- the memory while a thing is only read -/
structure Ba (w wx : World) (bx r mb : Nat) (f : Int → Option Value) (left : Int → Bool) (cnt : Nat) (x : Lv) (v : Value) (l : List Int) : Prop where
  bel : Below w.heap.size w wx
  rg : IRg wx mb r f left cnt
  bxc : wx.heap[bx]? = some (.cells #[.int .i64 x.txn, .string ⟨x.res.toArray⟩, .int .i64 x.mode] 42 (0, 0))
  row : QI wx w.heap.size v l
theorem ty_il : (3 : TypeId) ≠ 42 := by decide
section
variable {w wx wy : World} {bx r mb : Nat} {f : Int → Option Value} {left left' : Int → Bool} {cnt cnt' : Nat} {x : Lv} {v v' : Value} {l l' : List Int}
theorem Ba.apart (h : Ba w wx bx r mb f left cnt x v l) {k : Nat} (hk : v.ownBlock = some k) : k ≠ mb ∧ k ≠ r ∧ k ≠ bx := by
  obtain ⟨cur, hc⟩ := QR.kind h.row hk
  obtain ⟨⟨es, c, h1⟩, ⟨m, s, e, c', h2⟩⟩ := h.rg.kinds
  refine ⟨?_, ?_, ?_⟩ <;> rintro rfl
  · rw [hc] at h1; injection h1 with h1; cases h1
  · rw [hc] at h2; injection h2 with h2; cases h2
  · have := h.bxc; rw [hc] at this; injection this with this; injection this with e1 e2; exact ty_il e2
theorem Ba.below (h : Ba w wx bx r mb f left cnt x v l) (hb : Below wx.heap.size wx wy) : Ba w wy bx r mb f left cnt x v l :=
  ⟨h.bel.trans (hb.mono h.bel.size), h.rg.step (F := fun _ => False) (Frm.of_below hb) (fun h => h) (fun h => h), (hb.block _ (Array.getElem?_eq_some_iff.1 h.bxc).1).trans h.bxc, h.row.step (F := fun _ => False) (Frm.of_below hb) (fun _ _ e => e)⟩
theorem Ba.next (h : Ba w wx bx r mb f left cnt x v l) (hr : w.heap.size ≤ r) (hf : Frm (fun k => k = r) wx wy) (hg : IRg wy mb r f left' cnt') : Ba w wy bx r mb f left' cnt' x v l := by
  obtain ⟨-, ⟨m, s, e, c', h2⟩⟩ := h.rg.kinds
  refine ⟨h.bel.trans (hf.below (fun k hk => by rw [hk]; exact hr) h.bel.size), hg, (hf.heap (Array.getElem?_eq_some_iff.1 h.bxc).1 (fun c => ?_)).trans h.bxc, h.row.step hf (fun k hk c => (h.apart hk).2.1 c)⟩
  have := h.bxc
  rw [c, h2] at this
  injection this with this; cases this
theorem Ba.push (h : Ba w wx bx r mb f left cnt x v l) (hq : QI wy w.heap.size v' l') (hg : wx.grownBy wy v.ownBlock) : Ba w wy bx r mb f left cnt x v' l' := by
  have hf : Frm (fun k => v.ownBlock = some k) wx wy := Frm.grown (F := fun k => v.ownBlock = some k) (Frm.refl _ wx) hg (fun k hk => .inl hk)
  exact ⟨h.bel.trans (hf.below (fun k hk => (h.row.lt k hk).1) h.bel.size), h.rg.step hf (fun c => (h.apart c).1 rfl) (fun c => (h.apart c).2.1 rfl), (hf.heap (Array.getElem?_eq_some_iff.1 h.bxc).1 (fun c => (h.apart c).2.2 rfl)).trans h.bxc, hq⟩
end
section
variable {w w1 : World} {B g mb : Nat} {md : Int → Int} {cn : Nat → Nat} {qv : Value} {q : List Lv}
/-- whom a wish waits for -/
def BarS (md : Int → Int) (q : List Lv) (x : Lv) (u : Int) : Prop := (md u ≠ 0 ∧ u ≠ x.txn ∧ tgI (md u) x.mode = false) ∨ ∃ y ∈ q.takeWhile (fun y => !decide (y.txn = x.txn)), y.txn = u
structure Ls1 (md : Int → Int) (x : Lv) (left : Int → Bool) (l : List Int) : Prop where
  nd : l.Nodup
  mem : ∀ u, u ∈ l ↔ md u ≠ 0 ∧ u ≠ x.txn ∧ tgI (md u) x.mode = false ∧ left u = false
theorem Ls1.start (md : Int → Int) (x : Lv) : Ls1 md x (fun k => (mdV md k).isSome) [] := by
  refine ⟨List.nodup_nil, fun u => ⟨(fun e => by cases e), ?_⟩⟩
  rintro ⟨h1, -, -, h2⟩
  unfold mdV at h2
  simp [h1] at h2
theorem Ls1.skip {x : Lv} {left : Int → Bool} {l : List Int} (h : Ls1 md x left l) {k : Int} (hk : k = x.txn ∨ tgI (md k) x.mode = true) : Ls1 md x (fun z => left z && z != k) l := by
  refine ⟨h.nd, fun u => ?_⟩
  rw [h.mem]
  constructor
  · rintro ⟨a, b, c, d⟩; exact ⟨a, b, c, by simp [d]⟩
  · rintro ⟨a, b, c, d⟩
    refine ⟨a, b, c, ?_⟩
    simp only [Bool.and_eq_false_iff, bne_eq_false_iff_eq] at d
    rcases d with d | rfl
    · exact d
    · rcases hk with e | e
      · exact absurd e b
      · rw [c] at e; cases e
theorem Ls1.push {x : Lv} {left : Int → Bool} {l : List Int} (h : Ls1 md x left l) {k : Int} (hl : left k = true) (h1 : md k ≠ 0) (h2 : k ≠ x.txn) (h3 : tgI (md k) x.mode = false) : Ls1 md x (fun z => left z && z != k) (l ++ [k]) := by
  refine ⟨?_, fun u => ?_⟩
  · rw [List.nodup_append]
    refine ⟨h.nd, by simp, fun a ha b hb e => ?_⟩
    simp at hb
    subst hb e
    have := ((h.mem a).1 ha).2.2.2
    rw [hl] at this; cases this
  · rw [List.mem_append, h.mem, List.mem_singleton]
    simp only [Bool.and_eq_false_iff, bne_eq_false_iff_eq]
    constructor
    · rintro (⟨a, b, c, d⟩ | rfl)
      · exact ⟨a, b, c, .inl d⟩
      · exact ⟨h1, h2, h3, .inr rfl⟩
    · rintro ⟨a, b, c, d | d⟩
      · exact .inl ⟨a, b, c, d⟩
      · exact .inr d
theorem tw_take {α : Type} (p : α → Bool) : ∀ (q : List α) (j : Nat), (∀ z ∈ q.take j, p z = true) → (∀ y, q[j]? = some y → p y = false) → q.takeWhile p = q.take j
  | [], j, _, _ => by simp
  | a :: q, 0, _, h => by
    have := h a rfl
    simp [List.takeWhile_cons, this]
  | a :: q, j + 1, h1, h2 => by
    have h3 := h1 a (by simp)
    rw [List.takeWhile_cons, if_pos h3, List.take_succ_cons, tw_take p q j (fun z hz => h1 z (by simp [hz])) (fun y hy => h2 y (by simpa using hy))]
theorem bar_mem {x : Lv} {left : Int → Bool} {l : List Int} (h : Ls1 md x left l) (hl : ∀ k, left k = false) {j : Nat} (h1 : ∀ z ∈ q.take j, z.txn ≠ x.txn) (h2 : ∀ y, q[j]? = some y → y.txn = x.txn) (u : Int) : u ∈ l ++ (q.take j).map (fun y => y.txn) ↔ BarS md q x u := by
  unfold BarS
  rw [tw_take (fun y : Lv => !decide (y.txn = x.txn)) q j (fun z hz => by simp [h1 z hz]) (fun y hy => by simp [h2 y hy]), List.mem_append, h.mem, List.mem_map]
  constructor
  · rintro (⟨a, b, c, -⟩ | e)
    · exact .inl ⟨a, b, c⟩
    · exact .inr e
  · rintro (⟨a, b, c⟩ | e)
    · exact .inl ⟨a, b, c, hl u⟩
    · exact .inr e
set_option maxHeartbeats 8000000 in
theorem barring_any (h : ThM w B g mb md cn qv q) (ht : Tabs w) (x : Lv) (N : Nat) (hN : ∀ l : List Int, l.Nodup → (∀ u ∈ l, md u ≠ 0) → l.length ≤ N) (hq : N + q.length ≤ 4294967290) :
    Calls Tryz.prog 41 #[.pointer (some ⟨g, 0, none⟩), encL x] w fun e w' => ∃ v r, e = .returned v ∧ QI w' w.heap.size v r ∧ r.Pairwise (fun a b => a < b) ∧ (∀ u, u ∈ r ↔ BarS md q x u) ∧ Below w.heap.size w w' := by
  generalize hP : (fun (e : Ending) (w' : World) => ∃ v r, e = .returned v ∧ QI w' w.heap.size v r ∧ r.Pairwise (fun a b => a < b) ∧ (∀ u, u ∈ r ↔ BarS md q x u) ∧ Below w.heap.size w w') = P
  have HP := Lib.hid hP
  clear hP
  unfold encL
  obtain ⟨bx, hbx⟩ : ∃ n, w.heap.size = n := ⟨_, rfl⟩
  obtain ⟨W1, hW1⟩ : ∃ W1, w.alloc (.cells #[.int .i64 x.txn, .string ⟨x.res.toArray⟩, .int .i64 x.mode] 42) = W1 := ⟨_, rfl⟩
  have hb1 : Below w.heap.size w W1 := by rw [← hW1]; exact (Below.refl _ _).alloc (Nat.le_refl _) _
  have hx1 : W1.heap[bx]? = some (.cells #[.int .i64 x.txn, .string ⟨x.res.toArray⟩, .int .i64 x.mode] 42 (0, 0)) := by rw [← hW1, ← hbx]; exact heap_alloc_new w _
  have h1 := h.below hb1
  obtain ⟨n0, hm⟩ := h1.mp
  obtain ⟨w2, hr2, hrg2, b2⟩ := hm.range (P := Tryz.prog) (t := 56) Tryz.underlying56
  obtain ⟨r1, hr1⟩ : ∃ n, W1.heap.size = n := ⟨_, rfl⟩
  rw [hr1] at hr2 hrg2
  have c0 := h1.c0
  have HBA := Lib.hid (show Ba w w2 bx r1 mb (mdV md) (fun k => (mdV md k).isSome) n0 x (.slice none 0 0) [] from ⟨hb1.trans (b2.mono hb1.size), hrg2, (b2.block _ (Array.getElem?_eq_some_iff.1 hx1).1).trans hx1, QI.nil _ _⟩)
  have HR1 := Lib.hid (show w.heap.size ≤ r1 by rw [← hr1]; exact hb1.size)
  have HTH := Lib.hid h
  have HTB := Lib.hid ht
  have HN := Lib.hid hN
  have HQ := Lib.hid hq
  have HBX := Lib.hid hbx
  -- the end
  have HEND := Lib.hid (fun (wx : World) (v : Value) (l : List Int) (hb : Below w.heap.size w wx) (hr : QI wx w.heap.size v l) (hl : l.length ≤ N + q.length) (hm : ∀ u, u ∈ l ↔ BarS md q x u) =>
    (sorti_any wx w.heap.size v l hr (by omega)).mono (R' := fun e w2 => e = .returned (.tuple #[]) ∧ Calls Tryz.prog 64 #[v] w2 fun e w3 => ∃ v3, e = .returned v3 ∧ P (.returned v3) w3) (by
      rintro e w2 ⟨rfl, hq2, hf2⟩
      refine ⟨rfl, (compacti_any w2 w.heap.size v _ hq2 (by rw [List.length_mergeSort]; omega)).mono ?_⟩
      rintro e w3 ⟨v3, rfl, hq3, ho3, hf3⟩
      refine ⟨v3, rfl, ?_⟩
      rw [← HP.out]
      have hs := ordI_spec l
      refine ⟨v3, ordI l, rfl, hq3, hs.1, fun u => by rw [hs.2, hm], ?_⟩
      have hff := ((Frm.of_below (F := fun k => v.ownBlock = some k) hb).trans hf2 (New.refl _ _)).trans hf3 (New.refl _ _)
      exact hff.below (fun k hk => (hr.lt k hk).1) (Nat.le_refl _)))
  clear h ht hN hq hbx hb1 hx1 h1 hm hrg2 b2
  go_enter Tryz.func41, Tryz.ntmps41
  go_upto_region 2 with fail
  try rw [hW1]
  clear hW1
  go_wp2_with fail
  go_loopw [5] (fun v5 wx => ∃ (left : Int → Bool) (cnt : Nat) (l : List Int), Hid (Ba w wx bx r1 mb (mdV md) left cnt x v5 l) ∧ Hid (Ls1 md x left l)) (fun _ wx => rgLeft wx mb r1)
  case atStart => exact ⟨_, _, [], HBA, Lib.hid (Ls1.start md x)⟩
  case round =>
    obtain ⟨left, cnt, l, HR, HV⟩ := hrel
    clear HBA hr2 c0
    have HMS := Lib.hid HR.out.rg.left_eq
    have hll : l.length ≤ N := HN.out l HV.out.nd (fun u hu => ((HV.out.mem u).1 hu).1)
    go_wp2_with (first | (at_next; refine wp_rnext rfl _ rfl rfl HR.out.rg ?_ ?_) | go_in)
    · intro _ hl0
      have HL0 := Lib.hid hl0
      have HT := Lib.hid (HTH.out.below HR.out.bel)
      obtain ⟨n, hn⟩ : ∃ n, q.length = n := ⟨_, rfl⟩
      obtain ⟨qa, qc, hqe, -, -⟩ := HT.out.qr.sl
      rw [hn] at hqe
      subst hqe
      have c8 := HT.out.c8
      have HNQ := Lib.hid hn
      clear hn hl0
      go_wp2_with fail
      go_loopw [5, 40] (fun v5 i wx => ∃ (j : Nat) (l2 : List Int), j ≤ n ∧ i = .int .i64 j ∧ Hid (Ba w wx bx r1 mb (mdV md) left cnt x v5 l2) ∧ Hid (l2 = l ++ (q.take j).map (fun y => y.txn)) ∧ Hid (∀ z ∈ q.take j, z.txn ≠ x.txn)) (fun _ i _ => n - (intOf i).toNat)
      case atStart => exact ⟨0, l, Nat.zero_le _, rfl, HR, Lib.hid (by simp), Lib.hid (by simp)⟩
      case round =>
        obtain ⟨j, l2, hj, rfl, HB2, HL2, HA2⟩ := hrel
        have hl2 : l2.length ≤ N + j := by rw [HL2.out, List.length_append, List.length_map, List.length_take]; omega
        by_cases c : j < n
        · have c1 : (j : Int) < (n : Int) := by omega
          obtain ⟨y, hy⟩ : ∃ y, q[j]? = some y := ⟨_, List.getElem?_eq_getElem (by rw [HNQ.out]; exact c)⟩
          have hrow := (HTH.out.below HB2.out.bel).qr
          obtain ⟨g', cap', e1, -, -, a0, a1, a2, -⟩ := OwL.at hrow hy
          injection e1 with e1 e2 e3
          subst e1
          obtain ⟨W4, hW4⟩ : ∃ W4, wr.alloc (.cells #[.int .i64 y.txn, .string ⟨y.res.toArray⟩, .int .i64 y.mode] 42) = W4 := ⟨_, rfl⟩
          have hb4 : Below wr.heap.size wr W4 := by rw [← hW4]; exact (Below.refl _ _).alloc (Nat.le_refl _) _
          have hx4 : W4.heap[wr.heap.size]? = some (.cells #[.int .i64 y.txn, .string ⟨y.res.toArray⟩, .int .i64 y.mode] 42 (0, 0)) := by rw [← hW4]; exact heap_alloc_new wr _
          have b0 : W4.cell? ⟨wr.heap.size, 0, none⟩ = some (.int .i64 y.txn) := by rw [cell_of_block hx4]; rfl
          have HB4 := Lib.hid (HB2.out.below hb4)
          have f0 : W4.cell? ⟨bx, 0, none⟩ = some (.int .i64 x.txn) := by rw [cell_of_block HB4.out.bxc]; rfl
          rw [← HBX.out] at f0
          have HY := Lib.hid hy
          have hjw : IntKind.i64.wrap ((j : Int) + 1) = ((j + 1 : Nat) : Int) := by have := HQ.out; have := HNQ.out; rw [IntWalk.i64_in _ (by omega)]; omega
          clear hrow e2 e3 hb4 hx4 hy
          by_cases cy : y.txn = x.txn
          · have HE := Lib.hid (HEND.out W4 _ l2 HB4.out.bel HB4.out.row (by have := HNQ.out; omega) (fun u => by rw [HL2.out]; exact bar_mem HV.out HL0.out HA2.out (fun z hz => by rw [HY.out] at hz; injection hz with hz; rw [← hz]; exact cy) u))
            rw [cy] at a0 b0 hW4
            have cyd : (y.txn == x.txn) = true := by simp [cy]
            go_upto_region 10 with fail
            try rw [hW4]
            clear hW4
            go_wp2_with fail
            refine HE.out.mono ?_
            rintro e w2 ⟨rfl, hc⟩
            have HC := Lib.hid hc
            clear hc HE
            go_wp2_with fail
            refine HC.out.mono ?_
            rintro e w3 ⟨v3, rfl, hp⟩
            have HF := Lib.hid hp
            clear hp HC
            go_wp2_with fail
            exact HF.out
          · have cyd : (y.txn == x.txn) = false := by simp [cy]
            have hb5 : Below W4.heap.size W4 (W4.alloc (.cells #[.int .i64 y.txn] 3)) := (Below.refl _ _).alloc (Nat.le_refl _) _
            have HB5 := Lib.hid (HB4.out.below hb5)
            have HSZ := Lib.hid HB5.out.bel.size
            have HYY := Lib.hid (show (W4.alloc (.cells #[.int .i64 y.txn] 3)).cell? ⟨W4.heap.size, 0, none⟩ = some (.int .i64 y.txn) by rw [cell_of_block (heap_alloc_new W4 _)]; rfl)
            have HLO := Lib.hid (show l2.length + 1 ≤ 8796093022208 by have := HQ.out; have := HNQ.out; omega)
            have HL3 := Lib.hid (show l2 ++ [y.txn] = l ++ (q.take (j + 1)).map (fun y => y.txn) by rw [HL2.out, List.take_add_one, HY.out, List.map_append, List.append_assoc]; rfl)
            have HA3 := Lib.hid (show ∀ z ∈ q.take (j + 1), z.txn ≠ x.txn from fun z hz => by
              rw [List.take_add_one, HY.out] at hz
              rcases List.mem_append.1 hz with e | e
              · exact HA2.out z e
              · simp at e; rw [e]; exact cy)
            clear hb5
            go_upto_region 10 with fail
            try rw [hW4]
            clear hW4
            go_wp2_with (first | (at_builtin; refine wp_pushQ rfl _ _ rfl w.heap.size _ l2 rfl HB5.out.row HSZ.out ⟨_, 0, none⟩ 1 y.txn rfl HYY.out HLO.out ?_; intro v' w6 q6 g6 n6; have HK6 := Lib.hid (HB5.out.push q6 g6); clear q6 g6 n6))
            go_roundw
            case rel => exact ⟨j + 1, _, by omega, by first | rfl | go_num, HK6, HL3, HA3⟩
            case measure => simp [intOf]; omega
        · obtain rfl : j = n := by omega
          have cf : decide ((j : Int) < (j : Int)) = false := by simp
          have HE := Lib.hid (HEND.out wr _ l2 HB2.out.bel HB2.out.row (by have := HNQ.out; omega) (fun u => by rw [HL2.out]; exact bar_mem HV.out HL0.out HA2.out (fun z hz => by rw [List.getElem?_eq_none (by have := HNQ.out; omega)] at hz; cases hz) u))
          go_wp2_with fail
          refine HE.out.mono ?_
          rintro e w2 ⟨rfl, hc⟩
          have HC := Lib.hid hc
          clear hc HE
          go_wp2_with fail
          refine HC.out.mono ?_
          rintro e w3 ⟨v3, rfl, hp⟩
          have HF := Lib.hid hp
          clear hp HC
          go_wp2_with fail
          exact HF.out
    · intro k v w' cnt' hlk hvk hrg hlt hf hen
      obtain ⟨m, hmk⟩ : ∃ m, md k = m := ⟨_, rfl⟩
      unfold mdV at hvk
      have hm0 : md k ≠ 0 := fun e => by rw [if_pos e] at hvk; cases hvk
      rw [if_neg hm0, hmk] at hvk
      injection hvk with hvk
      subst hvk
      have HBn := Lib.hid (HR.out.next HR1.out hf hrg)
      have HLT := Lib.hid hlt
      have f0 : w'.cell? ⟨bx, 0, none⟩ = some (.int .i64 x.txn) := by rw [cell_of_block HBn.out.bxc]; rfl
      have f2 : w'.cell? ⟨bx, 2, none⟩ = some (.int .i64 x.mode) := by rw [cell_of_block HBn.out.bxc]; rfl
      rw [← HBX.out] at f0 f2
      have HTG := Lib.hid (tog_any m x.mode w' (HTB.out.below HBn.out.bel).1)
      have HM := Lib.hid (And.intro hlk (And.intro hm0 hmk))
      clear hrg hlt hf hlk hm0 hmk
      by_cases c : k = x.txn
      · subst c
        have HV2 := Lib.hid (HV.out.skip (k := x.txn) (.inl rfl))
        go_wp2_with fail
        go_roundw
        case rel => exact ⟨_, _, _, HBn, HV2⟩
        case measure => rw [HBn.out.rg.left_eq, HMS.out]; exact HLT.out
      · obtain ⟨tg, htg⟩ : ∃ b, tgI m x.mode = b := ⟨_, rfl⟩
        rw [htg] at HTG
        cases tg with
        | true =>
          have HV2 := Lib.hid (HV.out.skip (k := k) (.inr (by rw [HM.out.2.2]; exact htg)))
          clear htg
          go_wp2_with fail
          refine HTG.out.mono ?_
          rintro e w3 ⟨rfl, rfl⟩
          go_wp2_with fail
          go_roundw
          case rel => exact ⟨_, _, _, HBn, HV2⟩
          case measure => rw [HBn.out.rg.left_eq, HMS.out]; exact HLT.out
        | false =>
          have HV2 := Lib.hid (HV.out.push (k := k) HM.out.1 HM.out.2.1 c (by rw [HM.out.2.2]; exact htg))
          clear htg
          have hb5 : Below w'.heap.size w' (w'.alloc (.cells #[.int .i64 k] 3)) := (Below.refl _ _).alloc (Nat.le_refl _) _
          have HB5 := Lib.hid (HBn.out.below hb5)
          have HSZ := Lib.hid HB5.out.bel.size
          have HY := Lib.hid (show (w'.alloc (.cells #[.int .i64 k] 3)).cell? ⟨w'.heap.size, 0, none⟩ = some (.int .i64 k) by rw [cell_of_block (heap_alloc_new w' _)]; rfl)
          have HLO := Lib.hid (show l.length + 1 ≤ 8796093022208 by have := HQ.out; omega)
          clear hb5
          go_wp2_with fail
          refine HTG.out.mono ?_
          rintro e w3 ⟨rfl, rfl⟩
          go_wp2_with (first | (at_builtin; refine wp_pushQ rfl _ _ rfl w.heap.size u5 l rfl HB5.out.row HSZ.out ⟨_, 0, none⟩ 1 k rfl HY.out HLO.out ?_; intro v' w6 q6 g6 n6; have HK6 := Lib.hid (HB5.out.push q6 g6); clear q6 g6 n6))
          go_roundw
          case rel => exact ⟨_, _, _, HK6, HV2⟩
          case measure => rw [HK6.out.rg.left_eq, HMS.out]; exact HLT.out
end

end Go.Proofs.YtelfinhpjokmdaaGreatDoor

namespace Go.Proofs.YtelfinhpjokmdaaGreatDoor
set_option maxRecDepth 100000
set_option linter.unusedVariables false
set_option linter.unusedSectionVars false
set_option linter.unnecessarySimpa false
set_option linter.unusedSimpArgs false

section
variable {R : Type} [DecidableEq R] (O : OrdR R) (M : Mds)
/-- every lock and every wish is of a kind -/
structure OkT (ok : Int → R → Prop) (T : TbL R) : Prop where
  hv : ∀ x ∈ T.hv, ok x.txn x.res
  wt : ∀ w ∈ T.wt, ok w.l.txn w.l.res
theorem OkT.start (ok : Int → R → Prop) : OkT ok (⟨[], []⟩ : TbL R) := ⟨(fun x hx => by cases hx), fun x hx => by cases hx⟩
theorem OkT.ask {ok : Int → R → Prop} {T : TbL R} (h : OkT ok T) (hi : InvL O M T) {t : Int} {s : R} (m : Int) (hk : ok t s) : OkT ok (askL O M T t s m).1 := by
  unfold askL
  split
  · exact h
  · split
    · exact h
    · split
      · refine ⟨fun x hx => ?_, h.wt⟩
        rcases (mem_gv O hi.srt).1 hx with e | e
        · rw [e]; exact hk
        · exact h.hv x e.1
      · refine ⟨h.hv, fun w hw => ?_⟩
        rcases List.mem_append.1 hw with e | e
        · exact h.wt w e
        · rw [List.mem_singleton.1 e]; exact hk
theorem OkT.stl {ok : Int → R → Prop} (s : R) : ∀ (q : List (Lk R)) (T : TbL R) (out : List Int), OkT ok T → BasL O M T → que T.wt s = q → OkT ok (stl O M q T out).1
  | [], T, out, hk, h, hq => hk
  | l :: q, T, out, hk, h, hq => by
    unfold Go.Proofs.YtelfinhpjokmdaaGreatDoor.stl
    by_cases c : can M T.hv l = true
    · rw [if_pos c]
      obtain ⟨hr, w, hw, rfl⟩ := mem_que.1 (show l ∈ que T.wt s by rw [hq]; exact List.mem_cons_self ..)
      refine OkT.stl s q _ _ ⟨fun x hx => ?_, fun v hv => hk.wt v (mem_fgt.1 hv).1⟩ (h.grant O M hq c) (que_head h.one hq)
      rcases (mem_gv O h.srt).1 hx with e | e
      · rw [e]; exact hk.wt w hw
      · exact hk.hv x e.1
    · rw [if_neg c]; exact hk
theorem OkT.fold {ok : Int → R → Prop} : ∀ (ths : List R) (T : TbL R) (out : List Int), OkT ok T → BasL O M T → OkT ok (ths.foldl (fun p s => Go.Proofs.YtelfinhpjokmdaaGreatDoor.stl O M (que p.1.wt s) p.1 p.2) (T, out)).1
  | [], T, out, hk, h => hk
  | s :: r, T, out, hk, h => by
    rw [List.foldl_cons]
    have h2 := (stl_inv O M s (fun _ => True) (que T.wt s) T out h rfl (fun _ _ g => absurd trivial g)).1
    exact OkT.fold r _ _ (OkT.stl O M s (que T.wt s) T out hk h rfl) h2
theorem OkT.drop {ok : Int → R → Prop} {T : TbL R} (hk : OkT ok T) (h : InvL O M T) (t : Int) : OkT ok (dropL O M T t).1 :=
  OkT.fold O M (thg O T t) (outL T t) [] ⟨fun x hx => hk.hv x (List.mem_filter.1 hx).1, fun w hw => hk.wt w (mem_fgt.1 hw).1⟩ (h.out O M t)
/-- the locks of a thing -/
def rowR (H : List (Lk R)) (s : R) : List (Lk R) := H.filter fun x => decide (x.res = s)
theorem mem_rowR {H : List (Lk R)} {s : R} {x : Lk R} : x ∈ rowR H s ↔ x ∈ H ∧ x.res = s := by
  unfold rowR
  rw [List.mem_filter]
  simp
theorem rows_srt {H : List (Lk R)} (hs : SrtL O H) : ∀ {rs : List R}, rs.Pairwise (fun a b => O.lt a b = true) → SrtL O (rs.flatMap (rowR H))
  | [], _ => List.Pairwise.nil
  | s :: rs, h => by
    obtain ⟨h1, h2⟩ := List.pairwise_cons.1 h
    rw [List.flatMap_cons]
    refine List.pairwise_append.2 ⟨hs.sublist List.filter_sublist, rows_srt hs h2, fun a ha b hb => ?_⟩
    obtain ⟨s', hs', hb'⟩ := List.mem_flatMap.1 hb
    exact .inl (by rw [(mem_rowR.1 ha).2, (mem_rowR.1 hb').2]; exact h1 s' hs')
theorem rows_all {H : List (Lk R)} (hs : SrtL O H) {rs : List R} (h : rs.Pairwise (fun a b => O.lt a b = true)) (hm : ∀ s, s ∈ rs ↔ ∃ x ∈ H, x.res = s) : rs.flatMap (rowR H) = H :=
  srtL_eq O (rows_srt O hs h) hs fun x => by
    rw [List.mem_flatMap]
    constructor
    · rintro ⟨s, -, hx⟩; exact (mem_rowR.1 hx).1
    · intro hx; exact ⟨x.res, (hm _).2 ⟨x, hx, rfl⟩, mem_rowR.2 ⟨hx, rfl⟩⟩
theorem row_one {H : List (Lk R)} (hs : SrtL O H) (hp : ∀ x ∈ H, x.mode ≠ 0) {s : R} {us : List Int} (h : us.Pairwise (fun a b => a < b)) (hm : ∀ u, u ∈ us ↔ mdO H u s ≠ 0) : us.map (fun u => (⟨u, s, mdO H u s⟩ : Lk R)) = rowR H s := by
  refine srtL_eq O (List.pairwise_map.2 (h.imp fun {a b} hab => .inr ⟨rfl, hab⟩)) (hs.sublist List.filter_sublist) fun x => ?_
  rw [List.mem_map, mem_rowR]
  constructor
  · rintro ⟨u, hu, rfl⟩
    exact ⟨mdO_mem ((hm u).1 hu), rfl⟩
  · rintro ⟨hx, e⟩
    refine ⟨x.txn, (hm _).2 ((has_iff O hs hp _ _).1 ⟨x, hx, rfl, e⟩), ?_⟩
    rw [← e, mdO_of O hs hx]
/-- the edges of the first transactions that wait -/
structure EdP (T : TbL R) (ts : List Int) (E : List (Int × Int)) : Prop where
  srt : E.Pairwise edLt
  mem : ∀ e, e ∈ E ↔ e.1 ∈ ts ∧ ∃ w ∈ T.wt, w.l.txn = e.1 ∧ Bars M T w.l e.2
theorem EdP.nil (T : TbL R) : EdP M T [] [] := ⟨List.Pairwise.nil, fun e => by simp⟩
theorem EdP.next {T : TbL R} {ts : List Int} {E : List (Int × Int)} (h : EdP M T ts E) (ho : One T.wt) {t : Int} {l : Lk R} (hw : wsh T.wt t = some l) (hlt : ∀ u ∈ ts, u < t) {r : List Int} (hr : r.Pairwise (fun a b => a < b)) (hm : ∀ u, u ∈ r ↔ Bars M T l u) : EdP M T (ts ++ [t]) (E ++ r.map fun u => (t, u)) := by
  obtain ⟨w, hw1, rfl, hwt⟩ := wsh_some hw
  refine ⟨List.pairwise_append.2 ⟨h.srt, List.pairwise_map.2 (hr.imp fun {a b} hab => .inr ⟨rfl, hab⟩), fun a ha b hb => ?_⟩, fun e => ?_⟩
  · obtain ⟨u, hu, rfl⟩ := List.mem_map.1 hb
    exact .inl (hlt _ ((h.mem a).1 ha).1)
  · rw [List.mem_append, h.mem, List.mem_append, List.mem_singleton, List.mem_map]
    constructor
    · rintro (⟨a, b⟩ | ⟨u, hu, rfl⟩)
      · exact ⟨.inl a, b⟩
      · exact ⟨.inr rfl, w, hw1, hwt, (hm u).1 hu⟩
    · rintro ⟨a | a, v, hv, e1, e2⟩
      · exact .inl ⟨a, v, hv, e1, e2⟩
      · have := One.eq ho hv hw1 (by rw [e1, a, hwt])
        subst this
        exact .inr ⟨e.2, (hm _).2 e2, by rw [← a]⟩
theorem EdP.done {T : TbL R} {ts : List Int} {E : List (Int × Int)} (h : EdP M T ts E) (hm : ∀ w ∈ T.wt, w.l.txn ∈ ts) : EdS M T E := ⟨h.srt, fun e => by
  rw [h.mem]
  constructor
  · rintro ⟨-, h⟩; exact h
  · rintro ⟨w, hw, e1, e2⟩; exact ⟨by rw [← e1]; exact hm w hw, w, hw, e1, e2⟩⟩
/-- how many edges -/
theorem bars_few {T : TbL R} {l : Lk R} {r : List Int} (hr : r.Pairwise (fun a b => a < b)) (hm : ∀ u, u ∈ r ↔ Bars M T l u) : r.length ≤ sizT T := by
  have hn : r.Nodup := hr.imp fun {a b} hab e => by omega
  have : r.length ≤ (T.hv.map (fun x => x.txn) ++ T.wt.map fun w => w.l.txn).length := by
    refine nodup_len r _ hn fun u hu => ?_
    rcases (hm u).1 hu with ⟨h, hh, -, -, -, e⟩ | e
    · exact List.mem_append.2 (.inl (List.mem_map.2 ⟨h, hh, e⟩))
    · unfold aheadQ at e
      obtain ⟨y, hy, e⟩ := List.mem_map.1 e
      obtain ⟨-, w, hw, e2⟩ := mem_que.1 ((List.takeWhile_sublist _).subset hy)
      exact List.mem_append.2 (.inr (List.mem_map.2 ⟨w, hw, by rw [e2]; exact e⟩))
  rw [List.length_append, List.length_map, List.length_map] at this
  exact this
end

end Go.Proofs.YtelfinhpjokmdaaGreatDoor

namespace Go.Proofs.YtelfinhpjokmdaaGreatDoor
set_option maxRecDepth 100000
open Go.RowKit Go.Joins Go.ChangeShapes Go.WideShapes
open Go.MapKept
set_option linter.unusedVariables false
set_option linter.unnecessarySimpa false
set_option linter.unusedSimpArgs false

/-- a number and a name that a program can hold -/
def okB (t : Int) (s : RS) : Prop := (Lit.int .i64 t).wf = true ∧ s.length ≤ maxLen
theorem OwL.kind {w : World} {B : Nat} {v : Value} {l : List Lv} (h : OwL w B v l) {k : Nat} (hk : v.ownBlock = some k) : B ≤ k ∧ ∃ cur, w.heap[k]? = some (.cells cur 42 (0, 0)) := by
  rcases h.cases with ⟨rfl, -⟩ | ⟨g, cap, cur, rfl, hb, h2, -⟩
  · simp [Value.ownBlock] at hk
  · simp only [Value.ownBlock, Option.some.injEq] at hk
    subst hk
    exact ⟨hb, _, h2⟩
theorem ty_sl : (9 : TypeId) ≠ 42 := by decide
theorem map_keys {K : Type} {enc : K → Value} : ∀ (l : List MapEntry), (∀ x ∈ l, ∃ k, x.key = enc k) → ∃ ks : List K, ks.map enc = l.map (·.key)
  | [], _ => ⟨[], rfl⟩
  | x :: l, h => by
    obtain ⟨k, hk⟩ := h x (List.mem_cons_self ..)
    obtain ⟨ks, hks⟩ := map_keys l fun y hy => h y (List.mem_cons_of_mem _ hy)
    exact ⟨k :: ks, by rw [List.map_cons, List.map_cons, hk, hks]⟩
/-- the keys of a map, each once -/
theorem imap_keys {K : Type} {d : TypeDesc} {enc : K → Value} {w : World} {b n : Nat} {f : K → Option Value} (h : IMap d enc w b f n) : ∃ ks : List K, ks.Nodup ∧ ks.length = n ∧ ∀ k ∈ ks, (f k).isSome = true := by
  obtain ⟨es, clock, h1, h2, h3, h4, rfl⟩ := h
  obtain ⟨ks, hks⟩ := map_keys es.toList h3
  refine ⟨ks, ?_, ?_, fun k hk => ?_⟩
  · have hn : (ks.map enc).Nodup := by rw [hks]; exact h2.2.2
    exact (List.pairwise_map.1 hn).imp fun {a b} hab e => hab (by rw [e])
  · have := congrArg List.length hks
    simpa using this
  · have : enc k ∈ es.toList.map (·.key) := by rw [← hks]; exact List.mem_map.2 ⟨k, hk, rfl⟩
    obtain ⟨e, he, e2⟩ := List.mem_map.1 this
    rw [(h4 k e.val).2 ⟨e, he, e2, rfl⟩]; rfl
/-- the memory while all is told -/
structure Lx (w wx : World) (vr : Value) (rs : List RS) (v : Value) (l : List Lv) : Prop where
  bel : Below w.heap.size w wx
  rws : QS wx w.heap.size vr rs
  out : OwL wx w.heap.size v l
section
variable {w wx wy : World} {vr vu v v' : Value} {rs : List RS} {l l' : List Lv} {us : List Int}
theorem Lx.below (h : Lx w wx vr rs v l) (hb : Below wx.heap.size wx wy) : Lx w wy vr rs v l :=
  ⟨h.bel.trans (hb.mono h.bel.size), h.rws.step (F := fun _ => False) (Frm.of_below hb) (fun _ _ e => e), (Frm.of_below (F := fun _ => False) hb).owL h.out (fun _ _ e => e)⟩
theorem Lx.push (h : Lx w wx vr rs v l) (hq : OwL wy w.heap.size v' l') (hg : wx.grownBy wy v.ownBlock) : Lx w wy vr rs v' l' := by
  have hf : Frm (fun k => v.ownBlock = some k) wx wy := Frm.grown (F := fun k => v.ownBlock = some k) (Frm.refl _ wx) hg (fun k hk => .inl hk)
  refine ⟨h.bel.trans (hf.below (fun k hk => (h.out.kind hk).1) h.bel.size), h.rws.step hf (fun k hk hc => ?_), hq⟩
  obtain ⟨-, c1, e1⟩ := h.out.kind hc
  obtain ⟨c2, e2⟩ := QR.kind h.rws hk
  rw [e1] at e2
  injection e2 with e2
  injection e2 with _ e3
  exact ty_sl e3.symm
theorem Lx.ints (h : Lx w wx vr rs v l) (hu : QI wx w.heap.size vu us) (hg : wx.grownBy wy v.ownBlock) : QI wy w.heap.size vu us := by
  have hf : Frm (fun k => v.ownBlock = some k) wx wy := Frm.grown (F := fun k => v.ownBlock = some k) (Frm.refl _ wx) hg (fun k hk => .inl hk)
  refine hu.step hf (fun k hk hc => ?_)
  obtain ⟨-, c1, e1⟩ := h.out.kind hc
  obtain ⟨c2, e2⟩ := QR.kind hu hk
  rw [e1] at e2
  injection e2 with e2
  injection e2 with _ e3
  exact ty_il e3.symm
end
section
variable {w : World} {B : Nat} {own : Nat → Own} {L : Lay} {S : TS RS} {T : TbL RS}
theorem TbX.keysT (h : TbX w B own L S T) (hk : OkT okB T) (hZ : sizT T ≤ 4294967200) : ∃ n, IMap .string Go.Proofs.encStr w L.bt (thV S L) n ∧ n ≤ 4294967296 ∧ (∀ x v, thV S L x = some v → x.length ≤ maxLen) ∧ ∀ s, (thV S L s).isSome = true ↔ ∃ x ∈ T.hv, x.res = s := by
  obtain ⟨n, hm⟩ := h.mem.mt
  have he : ∀ s, (thV S L s).isSome = true ↔ ∃ x ∈ T.hv, x.res = s := fun s => by
    have := h.rel.ex s
    unfold thV
    by_cases c : S.ex s = true
    · rw [if_pos c]
      exact ⟨fun _ => (this.1 c).resolve_left (by simp), fun _ => rfl⟩
    · rw [if_neg c]
      exact ⟨(fun e => by cases e), fun e => absurd (this.2 (.inr e)) c⟩
  refine ⟨n, hm, ?_, fun x v hv => ?_, he⟩
  · obtain ⟨ks, h1, h2, h3⟩ := imap_keys hm
    have := nodup_lenR ks (T.hv.map fun x => x.res) h1 fun s hs => by
      obtain ⟨x, hx, e⟩ := (he s).1 (h3 s hs)
      exact List.mem_map.2 ⟨x, hx, e⟩
    rw [List.length_map] at this
    unfold sizT at hZ
    omega
  · obtain ⟨y, hy, rfl⟩ := (he x).1 (by rw [hv]; rfl)
    exact (hk.hv y hy).2
theorem TbX.keysM (h : TbX w B own L S T) (hk : OkT okB T) (hZ : sizT T ≤ 4294967200) {s : RS} (hs : S.ex s = true) : ∃ n, IMap (.int .i64) ik w (L.tm s) (mdV (S.md s)) n ∧ n ≤ 4294967296 ∧ (∀ x v, mdV (S.md s) x = some v → (Lit.int .i64 x).wf = true) ∧ ∀ u, (mdV (S.md s) u).isSome = true ↔ mdO T.hv u s ≠ 0 := by
  obtain ⟨n, hm⟩ := (h.mem.th s hs).mp
  have he : ∀ u, (mdV (S.md s) u).isSome = true ↔ mdO T.hv u s ≠ 0 := fun u => by
    unfold mdV
    rw [h.rel.mdE]
    by_cases c : mdO T.hv u s = 0
    · rw [if_pos c]; simp [c]
    · rw [if_neg c]; simp [c]
  refine ⟨n, hm, ?_, fun x v hv => ?_, he⟩
  · obtain ⟨ks, h1, h2, h3⟩ := imap_keys hm
    have := nodup_lenR ks (T.hv.map fun x => x.txn) h1 fun u hu => List.mem_map.2 ⟨_, mdO_mem ((he u).1 (h3 u hu)), rfl⟩
    rw [List.length_map] at this
    unfold sizT at hZ
    omega
  · exact (hk.hv _ (mdO_mem ((he x).1 (by rw [hv]; rfl)))).1
theorem rows_len {H : List Lv} {rs : List RS} (ha : rs.flatMap (rowR H) = H) {j : Nat} {s : RS} (hs : rs[j]? = some s) : ((rs.take j).flatMap (rowR H)).length + (rowR H s).length ≤ H.length := by
  have hlt := (List.getElem?_eq_some_iff.1 hs).1
  have e : rs = rs.take j ++ s :: rs.drop (j + 1) := by
    have h1 : rs.drop j = s :: rs.drop (j + 1) := by
      rw [List.drop_eq_getElem_cons hlt]
      congr 1
      rw [List.getElem?_eq_getElem hlt] at hs
      injection hs
    rw [← h1, List.take_append_drop]
  have h2 := congrArg List.length ha
  rw [e, List.flatMap_append, List.flatMap_cons, List.length_append, List.length_append] at h2
  have h3 : rs.take j = (rs.take j ++ s :: rs.drop (j + 1)).take j := by rw [← e]
  omega
set_option maxHeartbeats 8000000 in
theorem locks_any (h : TbX w B own L S T) (hk : OkT okB T) (hZ : sizT T ≤ 4294967200) :
    Calls Tryz.prog 16 #[.pointer (some ⟨L.tb, 0, none⟩)] w fun e w' => ∃ v, e = .returned v ∧ OwL w' w.heap.size v T.hv ∧ Below w.heap.size w w' := by
  generalize hP : (fun (e : Ending) (w' : World) => ∃ v, e = .returned v ∧ OwL w' w.heap.size v T.hv ∧ Below w.heap.size w w') = P
  have HP := Lib.hid hP
  clear hP
  obtain ⟨n0, hm0, hn0, hb0, he0⟩ := h.keysT hk hZ
  obtain ⟨W1, hW1⟩ : ∃ W1, w.alloc (.cells #[.map (some L.bt)] 48) = W1 := ⟨_, rfl⟩
  have hbw1 : Below w.heap.size w W1 := by rw [← hW1]; exact (Below.refl _ _).alloc (Nat.le_refl _) _
  have HKY := Lib.hid (keysT_any (some L.bt) w)
  rw [hW1] at HKY
  have HSO := Lib.hid (sortedT_any w W1 L.bt n0 _ hm0 hb0 hn0 _ rfl hW1)
  have c0 := h.mem.cells.1
  have HX := Lib.hid h
  have HK := Lib.hid hk
  have HZ := Lib.hid hZ
  have HE0 := Lib.hid he0
  have HB1 := Lib.hid hbw1
  clear h hk hZ hm0 hn0 hb0 he0 hW1 hbw1
  go_enter Tryz.func16, Tryz.ntmps16
  go_wp2_with fail
  refine HKY.out.mono ?_
  rintro e w2 ⟨rfl, rfl⟩
  go_wp2_with fail
  refine HSO.out.mono ?_
  rintro e w3 ⟨vr, rs, rfl, hsr, hms, hqs, hb3⟩
  obtain ⟨n, hn⟩ : ∃ n, rs.length = n := ⟨_, rfl⟩
  obtain ⟨ra, rc, hre, hrc, hrm, -⟩ := QR.form hqs
  rw [List.length_map, hn] at hre hrc
  subst hre
  have hn9 : n ≤ maxLen := Nat.le_trans hrc hrm
  unfold maxLen at hn9
  have hmr : ∀ s, s ∈ rs ↔ ∃ x ∈ T.hv, x.res = s := fun s => by rw [hms, HE0.out]
  have HA := Lib.hid (rows_all ordT HX.out.inv.srt hsr hmr)
  have HM := Lib.hid hmr
  have HN := Lib.hid hn
  have HL0 := Lib.hid (show Lx w w3 (.slice ra n rc) rs (.slice none 0 0) [] from ⟨HB1.out.trans (hb3.mono HB1.out.size), hqs.le HB1.out.size, OwL.nil _ _⟩)
  clear hsr hms hqs hb3 hmr hn hrc hrm HKY HSO
  go_wp2_with fail
  go_loopw [3, 16] (fun v3 i wx => ∃ (j : Nat) (l : List Lv), j ≤ n ∧ i = .int .i64 j ∧ Hid (Lx w wx (.slice ra n rc) rs v3 l) ∧ Hid (l = (rs.take j).flatMap (rowR T.hv))) (fun _ i _ => n - (intOf i).toNat)
  case atStart => exact ⟨0, [], Nat.zero_le _, rfl, HL0, Lib.hid (by simp)⟩
  case round =>
    obtain ⟨j, l, hj, rfl, HL, HE⟩ := hrel
    clear c0 HL0
    by_cases c : j < n
    · have c1 : (j : Int) < (n : Int) := by omega
      obtain ⟨s, hs⟩ : ∃ s, rs[j]? = some s := ⟨_, List.getElem?_eq_getElem (by rw [HN.out]; exact c)⟩
      have hrow := HL.out.rws
      obtain ⟨g', o', cap', e1, -, -, -, -, -, hcell⟩ := QR.at hrow (by rw [List.length_map, HN.out]; omega)
      injection e1 with e1 e2 e3
      subst e1
      have a0 : wr.cell? ⟨g', o' + j, none⟩ = some (.string ⟨s.toArray⟩) := hcell j (Go.Proofs.encStr s) (by rw [List.getElem?_map, hs]; rfl)
      have hX := HX.out.below HL.out.bel
      have hex : S.ex s = true := (hX.rel.ex s).2 (.inr ((HM.out s).1 (List.mem_of_getElem? hs)))
      have ht := hX.mem.lookT s
      rw [hex] at ht
      replace ht : (Instr.lookup 48 (.map (some L.bt)) (.string ⟨s.toArray⟩) false).run Tryz.prog wr = .ok (.pointer (some ⟨L.tg s, 0, none⟩)) wr := ht
      have a1 := hX.mem.cells.1
      have t0 := (hX.mem.th s hex).c0
      obtain ⟨n1, hm1, hn1, hb1, he1⟩ := hX.keysM HK.out HZ.out hex
      obtain ⟨W2, hW2⟩ : ∃ W2, wr.alloc (.cells #[.map (some (L.tm s))] 56) = W2 := ⟨_, rfl⟩
      have hbw2 : Below wr.heap.size wr W2 := by rw [← hW2]; exact (Below.refl _ _).alloc (Nat.le_refl _) _
      have HKM := Lib.hid (keysM_any (some (L.tm s)) wr)
      rw [hW2] at HKM
      have HSM := Lib.hid (sortedM_any wr W2 (L.tm s) n1 _ hm1 hb1 hn1 _ rfl hW2)
      have HE1 := Lib.hid he1
      have HB2 := Lib.hid hbw2
      have HEX := Lib.hid hex
      have HS := Lib.hid hs
      have hjw : IntKind.i64.wrap ((j : Int) + 1) = ((j + 1 : Nat) : Int) := by rw [IntWalk.i64_in _ (by omega)]; omega
      clear hrow hcell e2 e3 hs hX hm1 hn1 hb1 he1 hW2 hbw2 hex
      go_wp2_with fail
      refine HKM.out.mono ?_
      rintro e w4 ⟨rfl, rfl⟩
      go_wp2_with fail
      refine HSM.out.mono ?_
      rintro e w5 ⟨vu, us, rfl, hsu, hmu, hqu, hb5⟩
      obtain ⟨m, hm⟩ : ∃ m, us.length = m := ⟨_, rfl⟩
      obtain ⟨ua, uc, hue, huc, hum, -⟩ := QR.form hqu
      rw [icells_length, hm] at hue huc
      subst hue
      have hm9 : m ≤ maxLen := Nat.le_trans huc hum
      unfold maxLen at hm9
      have hro := row_one ordT HX.out.inv.srt HX.out.inv.nz hsu (s := s) (fun u => by rw [hmu, HE1.out])
      have HRO := Lib.hid hro
      have HMM := Lib.hid hm
      have HLEN := Lib.hid (show l.length + m ≤ 4294967200 by
        have h1 := rows_len HA.out HS.out
        rw [← hro, List.length_map, hm, ← HE.out] at h1
        have := HZ.out
        unfold sizT at this
        omega)
      have HU := Lib.hid (hqu.le (Nat.le_trans HL.out.bel.size HB2.out.size))
      have HL2 := Lib.hid (HL.out.below (HB2.out.trans (hb5.mono HB2.out.size)))
      clear hsu hmu hqu hb5 hro hm huc hum HKM HSM a0 a1 t0 ht
      go_wp2_with fail
      go_loopw [3, 33] (fun v3 i wx => ∃ (k : Nat) (l2 : List Lv), k ≤ m ∧ i = .int .i64 k ∧ Hid (Lx w wx (.slice (some ⟨g', o', none⟩) n rc) rs v3 l2) ∧ Hid (QI wx w.heap.size (.slice ua m uc) us) ∧ Hid (l2 = l ++ (us.take k).map (fun u => (⟨u, s, mdO T.hv u s⟩ : Lv)))) (fun _ i _ => m - (intOf i).toNat)
      case atStart => exact ⟨0, l, Nat.zero_le _, rfl, HL2, HU, Lib.hid (by simp)⟩
      case round =>
        obtain ⟨k, l2, hkm, rfl, HL3, HU3, HE3⟩ := hrel
        clear HL2 HU
        by_cases ck : k < m
        · have ck1 : (k : Int) < (m : Int) := by omega
          obtain ⟨u, hu⟩ : ∃ u, us[k]? = some u := ⟨_, List.getElem?_eq_getElem (by rw [HMM.out]; exact ck)⟩
          have hrow := HU3.out
          obtain ⟨g2, o2, cap2, e1, -, -, -, -, -, hcell⟩ := QR.at hrow (by rw [icells_length, HMM.out]; omega)
          injection e1 with e1 e2 e3
          subst e1
          have a0 : wr.cell? ⟨g2, o2 + k, none⟩ = some (.int .i64 u) := hcell k (.int .i64 u) (icells_at hu)
          have hX := HX.out.below HL3.out.bel
          have t0 := (hX.mem.th s HEX.out).c0
          have hlk := (hX.mem.th s HEX.out).look1 u
          obtain ⟨md, hmd⟩ : ∃ z, mdO T.hv u s = z := ⟨_, rfl⟩
          rw [hX.rel.mdE s u, hmd] at hlk
          have hb5 : Below wr.heap.size wr (wr.alloc (.cells #[.int .i64 u, .string ⟨s.toArray⟩, .int .i64 md] 42)) := (Below.refl _ _).alloc (Nat.le_refl _) _
          have HB5 := Lib.hid (HL3.out.below hb5)
          have HU5 := Lib.hid (show QI (wr.alloc (.cells #[.int .i64 u, .string ⟨s.toArray⟩, .int .i64 md] 42)) w.heap.size (.slice (some ⟨g2, o2, none⟩) m uc) us from HU3.out.step (F := fun _ => False) (Frm.of_below hb5) (fun _ _ e => e))
          have HSZ := Lib.hid HB5.out.bel.size
          have HNW := Lib.hid (BoxL.news (p := (⟨u, s, md⟩ : Lv)) (show BoxL (wr.alloc (.cells #[.int .i64 u, .string ⟨s.toArray⟩, .int .i64 md] 42)) wr.heap.size ⟨u, s, md⟩ from heap_alloc_new wr _))
          have HLO := Lib.hid (show l2.length + 1 ≤ 4294967297 by
            have := HLEN.out
            have h2 := congrArg List.length HE3.out
            rw [List.length_append, List.length_map, List.length_take] at h2
            omega)
          have HE4 := Lib.hid (show l2 ++ [(⟨u, s, md⟩ : Lv)] = l ++ (us.take (k + 1)).map (fun u => (⟨u, s, mdO T.hv u s⟩ : Lv)) by
            rw [HE3.out, List.take_add_one, hu, List.map_append, List.append_assoc, ← hmd]; rfl)
          have hkw : IntKind.i64.wrap ((k : Int) + 1) = ((k + 1 : Nat) : Int) := by rw [IntWalk.i64_in _ (by omega)]; omega
          clear hrow hcell e2 e3 hu hX hb5 hmd
          go_wp2_with (first | (at_builtin; refine wp_pushL rfl _ _ rfl w.heap.size _ l2 rfl HB5.out.out HSZ.out ⟨_, 0, none⟩ 1 1 [(⟨u, s, md⟩ : Lv)] rfl rfl HNW.out HLO.out ?_; intro v' w6 q6 g6 n6; have HK6 := Lib.hid (HB5.out.push q6 g6); have HU6 := Lib.hid (HB5.out.ints HU5.out g6); clear q6 g6 n6))
          go_roundw
          case rel => exact ⟨k + 1, _, by omega, by first | rfl | go_num, HK6, HU6, HE4⟩
          case measure => simp [intOf]; omega
        · obtain rfl : k = m := by omega
          have cf : decide ((k : Int) < (k : Int)) = false := by simp
          have HE4 := Lib.hid (show l2 = (rs.take (j + 1)).flatMap (rowR T.hv) by
            rw [HE3.out, List.take_of_length_le (Nat.le_of_eq HMM.out), HRO.out, HE.out, List.take_add_one, HS.out, List.flatMap_append]
            simp)
          go_wp2_with fail
          go_roundw
          case rel => exact ⟨j + 1, _, by omega, by first | rfl | go_num, HL3, HE4⟩
          case measure => simp [intOf]; omega
    · obtain rfl : j = n := by omega
      have cf : decide ((j : Int) < (j : Int)) = false := by simp
      have HF := Lib.hid (show P (.returned u3) wr by
        rw [← HP.out]
        have h1 := HE.out
        rw [List.take_of_length_le (Nat.le_of_eq HN.out), HA.out] at h1
        exact ⟨u3, rfl, by have := HL.out.out; rw [h1] at this; exact this, HL.out.bel⟩)
      obtain ⟨xa, xm, xc, rfl⟩ := HL.out.out.sl'
      go_wp2_with fail
      exact HF.out
end

end Go.Proofs.YtelfinhpjokmdaaGreatDoor

namespace Go.Proofs.YtelfinhpjokmdaaGreatDoor
set_option maxRecDepth 100000
open Go.RowKit Go.Joins Go.ChangeShapes Go.WideShapes
set_option linter.unusedVariables false

abbrev Gv := Int × Int
def gcells : List Gv → List Value
  | [] => []
  | p :: r => [.int .i64 p.1, .int .i64 p.2] ++ gcells r
theorem gcells_length (l : List Gv) : (gcells l).length = l.length * 2 := by
  induction l with
  | nil => rfl
  | cons v r ih => simp [gcells, ih]; omega
theorem gcells_app (l r : List Gv) : gcells (l ++ r) = gcells l ++ gcells r := by
  induction l with
  | nil => rfl
  | cons v l ih => simp only [List.cons_append, gcells, ih, List.append_assoc]
theorem gcells_at (l : List Gv) (i : Nat) (p : Gv) (h : l[i]? = some p) : (gcells l)[i * 2]? = some (.int .i64 p.1) ∧ (gcells l)[i * 2 + 1]? = some (.int .i64 p.2) := by
  induction l generalizing i with
  | nil => simp at h
  | cons u l ih =>
    unfold gcells
    cases i with
    | zero =>
      simp only [List.getElem?_cons_zero, Option.some.injEq] at h
      subst h
      exact ⟨rfl, rfl⟩
    | succ i =>
      rw [List.getElem?_cons_succ] at h
      obtain ⟨h1, h2⟩ := ih i h
      have e : ∀ j, ([Value.int .i64 u.1, .int .i64 u.2] ++ gcells l)[(i + 1) * 2 + j]? = (gcells l)[i * 2 + j]? := by
        intro j
        rw [List.getElem?_append_right (by simp; omega)]
        congr 1
        simp
        omega
      exact ⟨(e 0).trans h1, (e 1).trans h2⟩
theorem gcells_one : ∀ (l : List Gv), ∀ u ∈ gcells l, u.oneCell' = true
  | [], u, hu => by cases hu
  | p :: l, u, hu => by
    unfold gcells at hu
    rcases List.mem_append.1 hu with h | h
    · simp only [List.mem_cons, List.not_mem_nil, or_false] at h
      rcases h with rfl | rfl <;> rfl
    · exact gcells_one l u h
/-- a slice of edges of the call's own: all behind B -/
def OwG (w : World) (B : Nat) (v : Value) (l : List Gv) : Prop := w.ownsRow B 75 2 v l.length (gcells l)
theorem OwG.cases {w : World} {B : Nat} {v : Value} {l : List Gv} (h : OwG w B v l) : (v = .slice none 0 0 ∧ l = []) ∨
    ∃ (g cap : Nat) (cur : List Value), v = .slice (some ⟨g, 0, none⟩) l.length cap ∧ B ≤ g ∧ w.heap[g]? = some (.cells cur.toArray 75 (0, 0)) ∧ l.length ≤ cap ∧ cap ≤ maxLen ∧ cur.length = cap * 2 ∧ cur.take (l.length * 2) = gcells l := by
  rcases h.2 with ⟨rfl, e⟩ | ⟨g, cap, cur, rfl, hb, hg, hn, hc, hs, ht⟩
  · exact .inl ⟨rfl, List.eq_nil_of_length_eq_zero e⟩
  · exact .inr ⟨g, cap, cur.toList, rfl, hb, by simpa using hg, hn, hc, by simpa using hs, ht⟩
theorem OwG.le {w : World} {B B' : Nat} {v : Value} {l : List Gv} (h : OwG w B v l) (hb : B' ≤ B) : OwG w B' v l := ownsRow_le h hb
theorem Frm.owG {F : Bl} {w w1 : World} (h : Frm F w w1) {B : Nat} {v : Value} {l : List Gv} (ho : OwG w B v l) (hf : ∀ k, v.ownBlock = some k → ¬ F k) : OwG w1 B v l := h.ownsRow ho hf
theorem OwG.nil (w : World) (B : Nat) : OwG w B (.slice none 0 0) [] := World.ownsRow_nil w B _ 2
theorem OwG.sl {w : World} {B : Nat} {v : Value} {l : List Gv} (h : OwG w B v l) : ∃ a c, v = .slice a l.length c ∧ l.length ≤ c ∧ c ≤ maxLen := by
  rcases h.cases with ⟨rfl, rfl⟩ | ⟨g, cap, cur, rfl, -, -, hn, hc, -⟩
  · exact ⟨_, _, rfl, Nat.le_refl _, by decide⟩
  · exact ⟨_, _, rfl, hn, hc⟩
theorem OwG.kind {w : World} {B : Nat} {v : Value} {l : List Gv} (h : OwG w B v l) {k : Nat} (hk : v.ownBlock = some k) : B ≤ k ∧ ∃ cur, w.heap[k]? = some (.cells cur 75 (0, 0)) := by
  rcases h.cases with ⟨rfl, -⟩ | ⟨g, cap, cur, rfl, hb, h2, -⟩
  · simp [Value.ownBlock] at hk
  · simp only [Value.ownBlock, Option.some.injEq] at hk
    subst hk
    exact ⟨hb, _, h2⟩
theorem OwG.at {w : World} {B : Nat} {v : Value} {l : List Gv} (h : OwG w B v l) {i : Nat} {p : Gv} (hi : l[i]? = some p) :
    ∃ g cap, v = .slice (some ⟨g, 0, none⟩) l.length cap ∧ l.length ≤ cap ∧ cap ≤ maxLen ∧ w.cell? ⟨g, i * 2, none⟩ = some (.int .i64 p.1) ∧ w.cell? ⟨g, i * 2 + 1, none⟩ = some (.int .i64 p.2) ∧ ∀ o, w.frozen? ⟨g, o, none⟩ = false := by
  have hl : i < l.length := (List.getElem?_eq_some_iff.1 hi).1
  rcases h.cases with ⟨-, rfl⟩ | ⟨g, cap, cur, rfl, hb, hg, hn, hc, hs, ht⟩
  · simp at hl
  · have hc : ∀ (j : Nat) (u : Value), (gcells l)[j]? = some u → w.cell? ⟨g, j, none⟩ = some u := by
      intro j u hj
      rw [cell_of_block hg j]
      rw [← ht, List.getElem?_take] at hj
      split at hj
      · simpa using hj
      · cases hj
    obtain ⟨a, b⟩ := gcells_at l i p hi
    exact ⟨g, cap, rfl, hn, by assumption, hc _ _ a, hc _ _ b, fun o => unfrozen_of_block hg o⟩
theorem infoG : (Tryz.prog.info? 75).map (fun i => (i.zero, i.size, i.bytes)) = some (some (.agg #[.int .i64 0, .int .i64 0]), 2, 16) := by kernel_rfl
theorem run_append_g (w : World) (B : Nat) (v : Value) (l : List Gv) (hown : OwG w B v l) (hB : B ≤ w.heap.size) (ad : Addr) (m c : Nat) (rs : List Gv) (hm : rs.length = m)
    (hnews : ∀ j u, (gcells rs)[j]? = some u → w.cell? (ad.add j) = some u) (hsz : l.length + m ≤ 549755813888) (ty : TypeId) :
    ∃ v' w', (Builtin.append_ #[39, 39] ty #[v, .slice (some ad) m c]).run Tryz.prog w = .ok v' w' ∧ OwG w' B v' (l ++ rs) ∧ w.grownBy w' v.ownBlock := by
  obtain ⟨i0, hi, hz0, hz1, hz2⟩ := info_parts infoG
  have hl : (gcells rs).length = m * 2 := by rw [gcells_length, hm]
  have hml : l.length + m ≤ maxLen := by unfold maxLen; omega
  obtain ⟨v', w', hr, h1, h2, h3⟩ := run_append_own (P := Tryz.prog) w B 39 ty 75 i0 _ 2 16 Tryz.underlying39 hi hz0 hz1 hz2 rfl (by decide) v l.length (gcells l) hown ad m c (gcells rs) hl hnews (gcells_one rs) hml (by omega) hB
  refine ⟨v', w', hr, ?_, h2⟩
  unfold OwG
  rw [gcells_app, List.length_append, hm]
  exact h1
theorem wp_pushG {ops : Array Oper} {rest : List Oper} {o : Oper} {a : Act} {w : World} {Q : Exit → Act → World → Prop} (hgd : o.guard = none) (s x : Operand)
    (ho : o.op = .call { callee := .builtin .append, args := #[s, x], argTypes := #[39, 39] })
    (B : Nat) (v : Value) (l : List Gv) (hs : a.eval s = v) (hown : OwG w B v l) (hB : B ≤ w.heap.size) (ad : Addr) (m c : Nat) (rs : List Gv) (hm : rs.length = m) (hx : a.eval x = .slice (some ad) m c)
    (hnews : ∀ j u, (gcells rs)[j]? = some u → w.cell? (ad.add j) = some u) (hsz : l.length + m ≤ 549755813888)
    (h : ∀ v' w', OwG w' B v' (l ++ rs) → w.grownBy w' v.ownBlock → wpList Tryz.prog ops Q rest (a.put o.dst v') w') : wpList Tryz.prog ops Q (o :: rest) a w := by
  refine wpList_plain hgd fun K hK => ?_
  obtain ⟨v', w', hr, h1, h2⟩ := run_append_g w B v l hown hB ad m c rs hm hnews hsz o.type
  unfold Oper.wp
  simp [execOp, ho, resolve, invoke, builtin, hs, hx, hr, Result.andThen]
  exact hK _ _ (h v' w' h1 h2)
/-- an edge that has just been laid in a block of its own -/
def BoxG (w : World) (gv : Nat) (p : Gv) : Prop := w.heap[gv]? = some (.cells #[.int .i64 p.1, .int .i64 p.2] 75 (0, 0))
theorem BoxG.news {w : World} {gv : Nat} {p : Gv} (h : BoxG w gv p) : ∀ j u, (gcells [p])[j]? = some u → w.cell? ((⟨gv, 0, none⟩ : Addr).add j) = some u := by
  intro j u hj
  have ea : (⟨gv, 0, none⟩ : Addr).add j = ⟨gv, j, none⟩ := by unfold Addr.add; split <;> simp_all
  rw [ea, cell_of_block h]
  match j with
  | 0 => simpa [gcells] using hj
  | 1 => simpa [gcells] using hj
  | j + 2 => simp [gcells] at hj

end Go.Proofs.YtelfinhpjokmdaaGreatDoor

namespace Go.Proofs.YtelfinhpjokmdaaGreatDoor
set_option maxRecDepth 100000
open Go.RowKit Go.Joins Go.ChangeShapes Go.WideShapes
open Go.MapKept
set_option linter.unusedVariables false
set_option linter.unnecessarySimpa false
set_option linter.unusedSimpArgs false

theorem ty_ie : (3 : TypeId) ≠ 75 := by decide
/-- the memory while the edges are told -/
structure Lg (w wx : World) (vt : Value) (ts : List Int) (v : Value) (l : List Gv) : Prop where
  bel : Below w.heap.size w wx
  rws : QI wx w.heap.size vt ts
  out : OwG wx w.heap.size v l
section
variable {w wx wy : World} {vt vu v v' : Value} {ts us : List Int} {l l' : List Gv}
theorem Lg.below (h : Lg w wx vt ts v l) (hb : Below wx.heap.size wx wy) : Lg w wy vt ts v l :=
  ⟨h.bel.trans (hb.mono h.bel.size), h.rws.step (F := fun _ => False) (Frm.of_below hb) (fun _ _ e => e), (Frm.of_below (F := fun _ => False) hb).owG h.out (fun _ _ e => e)⟩
theorem Lg.ints (h : Lg w wx vt ts v l) (hu : QI wx w.heap.size vu us) (hg : wx.grownBy wy v.ownBlock) : QI wy w.heap.size vu us := by
  have hf : Frm (fun k => v.ownBlock = some k) wx wy := Frm.grown (F := fun k => v.ownBlock = some k) (Frm.refl _ wx) hg (fun k hk => .inl hk)
  refine hu.step hf (fun k hk hc => ?_)
  obtain ⟨-, c1, e1⟩ := h.out.kind hc
  obtain ⟨c2, e2⟩ := QR.kind hu hk
  rw [e1] at e2
  injection e2 with e2
  injection e2 with _ e3
  exact ty_ie e3.symm
theorem Lg.push (h : Lg w wx vt ts v l) (hq : OwG wy w.heap.size v' l') (hg : wx.grownBy wy v.ownBlock) : Lg w wy vt ts v' l' := by
  have hf : Frm (fun k => v.ownBlock = some k) wx wy := Frm.grown (F := fun k => v.ownBlock = some k) (Frm.refl _ wx) hg (fun k hk => .inl hk)
  exact ⟨h.bel.trans (hf.below (fun k hk => (h.out.kind hk).1) h.bel.size), h.ints h.rws hg, hq⟩
end
section
variable {w : World} {B : Nat} {own : Nat → Own} {L : Lay} {S : TS RS} {T : TbL RS}
theorem TbX.keysW (h : TbX w B own L S T) (hk : OkT okB T) (hZ : sizT T ≤ 4294967200) : ∃ n, IMap (.int .i64) ik w L.bw (wsV S) n ∧ n ≤ 4294967296 ∧ (∀ x v, wsV S x = some v → (Lit.int .i64 x).wf = true) ∧ ∀ u, (wsV S u).isSome = true ↔ (wsh T.wt u).isSome = true := by
  obtain ⟨n, hm⟩ := h.mem.mw
  have he : ∀ u, (wsV S u).isSome = true ↔ (wsh T.wt u).isSome = true := fun u => by
    unfold wsV
    rw [h.rel.ws, Option.isSome_map]
  have hx : ∀ u, (wsV S u).isSome = true → ∃ w ∈ T.wt, w.l.txn = u := fun u hu => by
    obtain ⟨l, hl⟩ := Option.isSome_iff_exists.1 ((he u).1 hu)
    obtain ⟨v, hv, e, e2⟩ := wsh_some hl
    exact ⟨v, hv, by rw [e]; exact e2⟩
  refine ⟨n, hm, ?_, fun x v hv => ?_, he⟩
  · obtain ⟨ks, h1, h2, h3⟩ := imap_keys hm
    have := nodup_lenR ks (T.wt.map fun x => x.l.txn) h1 fun u hu => by
      obtain ⟨v, hv, e⟩ := hx u (h3 u hu)
      exact List.mem_map.2 ⟨v, hv, e⟩
    rw [List.length_map] at this
    unfold sizT at hZ
    omega
  · obtain ⟨y, hy, e⟩ := hx x (by rw [hv]; rfl)
    rw [← e]
    exact (hk.wt y hy).1
theorem TbX.bars (h : TbX w B own L S T) (l : Lv) (u : Int) : BarS (S.md l.res) (S.qu l.res) l u ↔ Bars mds T l u := by
  unfold BarS Bars aheadQ
  rw [h.rel.quE, h.rel.mdE, List.mem_map]
  refine or_congr ⟨?_, ?_⟩ Iff.rfl
  · rintro ⟨a, b, c⟩
    exact ⟨_, mdO_mem a, rfl, b, c, rfl⟩
  · rintro ⟨x, hx, e1, e2, e3, rfl⟩
    have hm : mdO T.hv x.txn l.res = x.mode := by rw [← e1]; exact mdO_of ordT h.inv.srt hx
    rw [hm]
    exact ⟨h.inv.nz (O := ordT) (M := mds) x hx, e2, e3⟩
theorem TbX.thing (h : TbX w B own L S T) {t : Int} {l : Lv} (hl : wsh T.wt t = some l) : S.ex l.res = true := by
  cases hx : S.ex l.res with
  | true => rfl
  | false =>
    obtain ⟨-, hq, -⟩ := h.rel.noE ordT mds h.inv hx t
    obtain ⟨v, hv, rfl, -⟩ := wsh_some hl
    have : v.l ∈ que T.wt v.l.res := mem_que.2 ⟨rfl, v, hv, rfl⟩
    rw [hq] at this
    cases this
theorem TbX.barred (h : TbX w B own L S T) (hZ : sizT T ≤ 4294967200) {t : Int} {l : Lv} (hl : wsh T.wt t = some l) :
    Calls Tryz.prog 41 #[.pointer (some ⟨L.tg l.res, 0, none⟩), encL l] w fun e w' => ∃ v r, e = .returned v ∧ QI w' w.heap.size v r ∧ r.Pairwise (fun a b => a < b) ∧ (∀ u, u ∈ r ↔ Bars mds T l u) ∧ Below w.heap.size w w' := by
  have hx := h.thing hl
  refine (barring_any (h.mem.th _ hx) h.tb.t l T.hv.length (fun ks h1 h2 => ?_) ?_).mono ?_
  · have := nodup_lenR ks (T.hv.map fun x => x.txn) h1 fun u hu => by
      have := h2 u hu
      rw [h.rel.mdE] at this
      exact List.mem_map.2 ⟨_, mdO_mem this, rfl⟩
    rw [List.length_map] at this
    exact this
  · have h1 := que_le T.wt l.res
    rw [h.rel.quE]
    unfold sizT at hZ
    omega
  · rintro e w' ⟨v, r, e1, e2, e3, e4, e5⟩
    exact ⟨v, r, e1, e2, e3, fun u => by rw [e4, h.bars], e5⟩
set_option maxHeartbeats 8000000 in
theorem edges_any (h : TbX w B own L S T) (hk : OkT okB T) (hZ : sizT T ≤ 4294967200) (hE : T.wt.length * sizT T ≤ 549755813000) :
    Calls Tryz.prog 12 #[.pointer (some ⟨L.tb, 0, none⟩)] w fun e w' => ∃ v E, e = .returned v ∧ OwG w' w.heap.size v E ∧ EdS mds T E ∧ Below w.heap.size w w' := by
  generalize hP : (fun (e : Ending) (w' : World) => ∃ v E, e = .returned v ∧ OwG w' w.heap.size v E ∧ EdS mds T E ∧ Below w.heap.size w w') = P
  have HP := Lib.hid hP
  clear hP
  obtain ⟨n0, hm0, hn0, hb0, he0⟩ := h.keysW hk hZ
  obtain ⟨W1, hW1⟩ : ∃ W1, w.alloc (.cells #[.map (some L.bw)] 50) = W1 := ⟨_, rfl⟩
  have hbw1 : Below w.heap.size w W1 := by rw [← hW1]; exact (Below.refl _ _).alloc (Nat.le_refl _) _
  have HKY := Lib.hid (keysL_any (some L.bw) w)
  rw [hW1] at HKY
  have HSO := Lib.hid (sortedL_any w W1 L.bw n0 _ hm0 hb0 hn0 _ rfl hW1)
  have c2 := h.mem.cells.2.2
  have HX := Lib.hid h
  have HZ := Lib.hid hZ
  have HE0 := Lib.hid he0
  have HB1 := Lib.hid hbw1
  have HEE := Lib.hid hE
  clear h hk hZ hm0 hn0 hb0 he0 hW1 hbw1 hE
  go_enter Tryz.func12, Tryz.ntmps12
  go_wp2_with fail
  refine HKY.out.mono ?_
  rintro e w2 ⟨rfl, rfl⟩
  go_wp2_with fail
  refine HSO.out.mono ?_
  rintro e w3 ⟨vt, ts, rfl, hst, hmt, hqt, hb3⟩
  obtain ⟨n, hn⟩ : ∃ n, ts.length = n := ⟨_, rfl⟩
  obtain ⟨ra, rc, hre, hrc, hrm, -⟩ := QR.form hqt
  rw [icells_length, hn] at hre hrc
  subst hre
  have hmt2 : ∀ t, t ∈ ts ↔ (wsh T.wt t).isSome = true := fun t => by rw [hmt, HE0.out]
  have hnl : n ≤ T.wt.length := by
    have := nodup_len ts (T.wt.map fun x => x.l.txn) (hst.imp fun {a b} hab e => by omega) fun u hu => by
      obtain ⟨l, hl⟩ := Option.isSome_iff_exists.1 ((hmt2 u).1 hu)
      obtain ⟨v, hv, e, e2⟩ := wsh_some hl
      exact List.mem_map.2 ⟨v, hv, by rw [e]; exact e2⟩
    rw [List.length_map, hn] at this
    exact this
  have hn9 : n ≤ 4294967200 := by have := HZ.out; unfold sizT at this; omega
  have HNL := Lib.hid hnl
  have HM := Lib.hid hmt2
  have HN := Lib.hid hn
  have HST := Lib.hid hst
  have HL0 := Lib.hid (show Lg w w3 (.slice ra n rc) ts (.slice none 0 0) [] from ⟨HB1.out.trans (hb3.mono HB1.out.size), hqt.le HB1.out.size, OwG.nil _ _⟩)
  clear hst hmt hmt2 hqt hb3 hn hrc hrm HKY HSO hnl
  go_wp2_with fail
  go_loopw [3, 16] (fun v3 i wx => ∃ (j : Nat) (E : List Gv), j ≤ n ∧ i = .int .i64 j ∧ Hid (Lg w wx (.slice ra n rc) ts v3 E) ∧ Hid (EdP mds T (ts.take j) E) ∧ Hid (E.length ≤ j * sizT T)) (fun _ i _ => n - (intOf i).toNat)
  case atStart => exact ⟨0, [], Nat.zero_le _, rfl, HL0, Lib.hid (by rw [List.take_zero]; exact EdP.nil mds T), Lib.hid (by simp)⟩
  case round =>
    obtain ⟨j, E, hj, rfl, HL, HE, HC⟩ := hrel
    clear c2 HL0
    by_cases c : j < n
    · have c1 : (j : Int) < (n : Int) := by omega
      obtain ⟨t, ht⟩ : ∃ t, ts[j]? = some t := ⟨_, List.getElem?_eq_getElem (by rw [HN.out]; exact c)⟩
      have hrow := HL.out.rws
      obtain ⟨g', o', cap', e1, -, -, -, -, -, hcell⟩ := QR.at hrow (by rw [icells_length, HN.out]; omega)
      injection e1 with e1 e2 e3
      subst e1
      have a0 : wr.cell? ⟨g', o' + j, none⟩ = some (.int .i64 t) := hcell j (.int .i64 t) (icells_at ht)
      have hX := HX.out.below HL.out.bel
      obtain ⟨l, hl⟩ := Option.isSome_iff_exists.1 ((HM.out t).1 (List.mem_of_getElem? ht))
      have hlw := hX.mem.lookW1 t
      rw [hX.rel.ws, hl] at hlw
      replace hlw : (Instr.lookup 50 (.map (some L.bw)) (.int .i64 t) false).run Tryz.prog wr = .ok (encL l) wr := hlw
      unfold encL at hlw
      have a2 := hX.mem.cells.2.2
      obtain ⟨W2, hW2⟩ : ∃ W2, wr.alloc (.cells #[.int .i64 l.txn, .string ⟨l.res.toArray⟩, .int .i64 l.mode] 42) = W2 := ⟨_, rfl⟩
      have hbw2 : Below wr.heap.size wr W2 := by rw [← hW2]; exact (Below.refl _ _).alloc (Nat.le_refl _) _
      have hx2 : W2.heap[wr.heap.size]? = some (.cells #[.int .i64 l.txn, .string ⟨l.res.toArray⟩, .int .i64 l.mode] 42 (0, 0)) := by rw [← hW2]; exact heap_alloc_new wr _
      have b0 : W2.cell? ⟨wr.heap.size, 0, none⟩ = some (.int .i64 l.txn) := by rw [cell_of_block hx2]; rfl
      have b1 : W2.cell? ⟨wr.heap.size, 1, none⟩ = some (.string ⟨l.res.toArray⟩) := by rw [cell_of_block hx2]; rfl
      have b2 : W2.cell? ⟨wr.heap.size, 2, none⟩ = some (.int .i64 l.mode) := by rw [cell_of_block hx2]; rfl
      have hX2 := hX.below hbw2
      have t0 := hX2.mem.cells.1
      have hlt := hX2.mem.lookT l.res
      rw [hX2.thing hl] at hlt
      replace hlt : (Instr.lookup 48 (.map (some L.bt)) (.string ⟨l.res.toArray⟩) false).run Tryz.prog W2 = .ok (.pointer (some ⟨L.tg l.res, 0, none⟩)) W2 := hlt
      have hltd := (hX2.below (Below.refl _ W2).drew).mem.lookT l.res
      rw [hX2.thing hl] at hltd
      replace hltd : (Instr.lookup 48 (.map (some L.bt)) (.string ⟨l.res.toArray⟩) false).run Tryz.prog W2.drew = .ok (.pointer (some ⟨L.tg l.res, 0, none⟩)) W2.drew := hltd
      have HBR := Lib.hid (fun (wx : World) (hb : Below W2.heap.size W2 wx) => (hX2.below hb).barred HZ.out hl)
      unfold encL at HBR
      have HB2 := Lib.hid hbw2
      have HT := Lib.hid ht
      have HWL := Lib.hid hl
      have hjw : IntKind.i64.wrap ((j : Int) + 1) = ((j + 1 : Nat) : Int) := by rw [IntWalk.i64_in _ (by omega)]; omega
      clear hrow hcell e2 e3 ht hX hX2 hbw2 hx2 hl
      go_upto_region 6 with fail
      try rw [hW2]
      clear hW2
      have HNX := Lib.hid (fun (w5 : World) (vu : Value) (us : List Int) (hqu : QI w5 W2.drew.heap.size vu us) (hsu : us.Pairwise (fun a b => a < b)) (hmu : ∀ u, u ∈ us ↔ Bars mds T l u) (hb5 : Below W2.drew.heap.size W2.drew w5) =>
        show ∃ ua m uc, vu = .slice ua m uc ∧ m ≤ 4294967200 ∧ Hid (us.length = m) ∧ Hid (Lg w w5 (.slice (some ⟨g', o', none⟩) n rc) ts u3 E) ∧ Hid (QI w5 w.heap.size (.slice ua m uc) us) ∧ Hid (EdP mds T (ts.take (j + 1)) (E ++ us.map fun u => (t, u))) ∧ Hid (E.length + m ≤ (j + 1) * sizT T ∧ E.length + m ≤ 549755813000) by
          obtain ⟨ua, uc, hue, huc, hum, -⟩ := QR.form hqu
          rw [icells_length] at hue
          have hf := bars_few mds hsu hmu
          have hbl := (HB2.out.trans (((Below.refl W2.heap.size W2).drew.trans (hb5.mono (Nat.le_refl _))).mono HB2.out.size))
          have h1 : (j + 1) * sizT T = j * sizT T + sizT T := by rw [Nat.add_mul, Nat.one_mul]
          have h2 : (j + 1) * sizT T ≤ T.wt.length * sizT T := Nat.mul_le_mul_right _ (by have := HNL.out; omega)
          refine ⟨ua, us.length, uc, hue, by have := HZ.out; omega, Lib.hid rfl, Lib.hid (HL.out.below hbl), Lib.hid (by rw [← hue]; exact hqu.le (Nat.le_trans HL.out.bel.size HB2.out.size)), Lib.hid ?_, Lib.hid ⟨by have := HC.out; omega, by have := HC.out; have := HEE.out; omega⟩⟩
          have h3 := HE.out.next mds HX.out.inv.one HWL.out (fun u hu => ?_) hsu hmu
          · rw [List.take_add_one, HT.out]; exact h3
          · obtain ⟨i, hi⟩ := List.getElem?_of_mem hu
            have hi2 : i < (ts.take j).length := (List.getElem?_eq_some_iff.1 hi).1
            rw [List.length_take] at hi2
            rw [List.getElem?_take, if_pos (by omega)] at hi
            have h4 := List.pairwise_iff_getElem.1 HST.out i j (by omega) (by rw [HN.out]; exact c) (by omega)
            rw [(List.getElem?_eq_some_iff.1 hi).2, (List.getElem?_eq_some_iff.1 HT.out).2] at h4
            exact h4)
      clear a0 a2 hlw
      go_cut [34, 35, 36] (fun p q r wx => ∃ ua m uc us, p = .slice ua m uc ∧ q = .int .i64 m ∧ r = .int .i64 0 ∧ m ≤ 4294967200 ∧ Hid (us.length = m) ∧ Hid (Lg w wx (.slice (some ⟨g', o', none⟩) n rc) ts u3 E) ∧ Hid (QI wx w.heap.size (.slice ua m uc) us) ∧ Hid (EdP mds T (ts.take (j + 1)) (E ++ us.map fun u => (t, u))) ∧ Hid (E.length + m ≤ (j + 1) * sizT T ∧ E.length + m ≤ 549755813000))
      case first =>
        go_region_with (go_at_call 41; refine (HBR.out W2.drew (Below.refl _ _).drew).mono ?_; rintro e w5 ⟨vu, us, rfl, hqu, hsu, hmu, hb5⟩; obtain ⟨ua, m, uc, rfl, hm9, HMM, HL5, HU5, HE5, HC5⟩ := HNX.out w5 vu us hqu hsu hmu hb5; clear hqu hsu hmu hb5)
        all_goals
          go_wp2_with fail
          go_meet
          exact ⟨ua, m, uc, us, rfl, rfl, rfl, hm9, HMM, HL5, HU5, HE5, HC5⟩
      case rest =>
        obtain ⟨ua, m, uc, us, rfl, rfl, rfl, hm9, HMM, HL5, HU5, HE5, HC5⟩ := hcut
        clear hlt hltd b0 b1 b2 t0
        go_wp2_with fail
        go_loopw [3, 36] (fun v3 i wx => ∃ (k : Nat) (E2 : List Gv), k ≤ m ∧ i = .int .i64 k ∧ Hid (Lg w wx (.slice (some ⟨g', o', none⟩) n rc) ts v3 E2) ∧ Hid (QI wx w.heap.size (.slice ua m uc) us) ∧ Hid (E2 = E ++ (us.take k).map (fun u => (t, u)))) (fun _ i _ => m - (intOf i).toNat)
        case atStart => exact ⟨0, E, Nat.zero_le _, rfl, HL5, HU5, Lib.hid (by simp)⟩
        case round =>
          obtain ⟨k, E2, hkm, rfl, HL3, HU3, HE3⟩ := hrel
          clear HL5 HU5 HNX HBR
          by_cases ck : k < m
          · have ck1 : (k : Int) < (m : Int) := by omega
            obtain ⟨u, hu⟩ : ∃ u, us[k]? = some u := ⟨_, List.getElem?_eq_getElem (by rw [HMM.out]; exact ck)⟩
            have hrow := HU3.out
            obtain ⟨g2, o2, cap2, e1, -, -, -, -, -, hcell⟩ := QR.at hrow (by rw [icells_length, HMM.out]; omega)
            injection e1 with e1 e2 e3
            subst e1
            have a0 : wr.cell? ⟨g2, o2 + k, none⟩ = some (.int .i64 u) := hcell k (.int .i64 u) (icells_at hu)
            have hb5 : Below wr.heap.size wr (wr.alloc (.cells #[.int .i64 t, .int .i64 u] 75)) := (Below.refl _ _).alloc (Nat.le_refl _) _
            have HB5 := Lib.hid (HL3.out.below hb5)
            have HU6 := Lib.hid (show QI (wr.alloc (.cells #[.int .i64 t, .int .i64 u] 75)) w.heap.size (.slice (some ⟨g2, o2, none⟩) m uc) us from HU3.out.step (F := fun _ => False) (Frm.of_below hb5) (fun _ _ e => e))
            have HSZ := Lib.hid HB5.out.bel.size
            have HNW := Lib.hid (BoxG.news (p := ((t, u) : Gv)) (show BoxG (wr.alloc (.cells #[.int .i64 t, .int .i64 u] 75)) wr.heap.size (t, u) from heap_alloc_new wr _))
            have HLO := Lib.hid (show E2.length + 1 ≤ 549755813888 by
              have := HC5.out.2
              have h2 := congrArg List.length HE3.out
              rw [List.length_append, List.length_map, List.length_take] at h2
              omega)
            have HE4 := Lib.hid (show E2 ++ [((t, u) : Gv)] = E ++ (us.take (k + 1)).map (fun u => (t, u)) by
              rw [HE3.out, List.take_add_one, hu, List.map_append, List.append_assoc]; rfl)
            have hkw : IntKind.i64.wrap ((k : Int) + 1) = ((k + 1 : Nat) : Int) := by rw [IntWalk.i64_in _ (by omega)]; omega
            clear hrow hcell e2 e3 hu hb5
            go_wp2_with (first | (at_builtin; refine wp_pushG rfl _ _ rfl w.heap.size _ E2 rfl HB5.out.out HSZ.out ⟨_, 0, none⟩ 1 1 [((t, u) : Gv)] rfl rfl HNW.out HLO.out ?_; intro v' w6 q6 g6; have HK6 := Lib.hid (HB5.out.push q6 g6); have HU7 := Lib.hid (HB5.out.ints HU6.out g6); clear q6 g6))
            go_roundw
            case rel => exact ⟨k + 1, _, by omega, by first | rfl | go_num, HK6, HU7, HE4⟩
            case measure => simp [intOf]; omega
          · obtain rfl : k = m := by omega
            have cf : decide ((k : Int) < (k : Int)) = false := by simp
            have HE6 := Lib.hid (show EdP mds T (ts.take (j + 1)) E2 by
              have h1 := HE3.out
              rw [List.take_of_length_le (Nat.le_of_eq HMM.out)] at h1
              rw [h1]; exact HE5.out)
            have HC6 := Lib.hid (show E2.length ≤ (j + 1) * sizT T by
              have h1 := congrArg List.length HE3.out
              rw [List.take_of_length_le (Nat.le_of_eq HMM.out), List.length_append, List.length_map, HMM.out] at h1
              rw [h1]; exact HC5.out.1)
            go_wp2_with fail
            go_roundw
            case rel => exact ⟨j + 1, _, by omega, by first | rfl | go_num, HL3, HE6, HC6⟩
            case measure => simp [intOf]; omega
    · obtain rfl : j = n := by omega
      have cf : decide ((j : Int) < (j : Int)) = false := by simp
      have HF := Lib.hid (show P (.returned u3) wr by
        rw [← HP.out]
        have h1 := HE.out
        rw [List.take_of_length_le (Nat.le_of_eq HN.out)] at h1
        exact ⟨u3, E, rfl, HL.out.out, h1.done mds fun v hv => (HM.out _).2 (by rw [wsh_of HX.out.inv.one hv]; rfl), HL.out.bel⟩)
      obtain ⟨xa, xc, hxe, -, -⟩ := HL.out.out.sl
      subst hxe
      go_wp2_with fail
      exact HF.out
end

end Go.Proofs.YtelfinhpjokmdaaGreatDoor

namespace Go.Proofs.YtelfinhpjokmdaaGreatDoor
set_option maxRecDepth 100000
open Go.RowKit Go.Joins Go.ChangeShapes Go.WideShapes
open Go.MapKept
set_option linter.unusedVariables false
set_option linter.unnecessarySimpa false
set_option linter.unusedSimpArgs false

theorem take_eq_all {α : Type} {l r : List α} {n : Nat} (h : l.take n = r.take n) (h1 : l.length = n) (h2 : r.length = n) : l = r := by
  rw [List.take_of_length_le (Nat.le_of_eq h1), List.take_of_length_le (Nat.le_of_eq h2)] at h
  exact h
set_option maxHeartbeats 4000000 in
theorem sames_any (w : World) (B1 B2 : Nat) (v1 v2 : Value) (l1 l2 : List Int) (h1 : QI w B1 v1 l1) (h2 : QI w B2 v2 l2) :
    Calls Tryz.prog 8 #[v1, v2] w fun e w' => e = .returned (.bool (decide (l1 = l2))) ∧ Below w.heap.size w w' := by
  obtain ⟨a1, c1, e1, hc1, hm1, -⟩ := QR.form h1
  obtain ⟨a2, c2, e2, hc2, hm2, -⟩ := QR.form h2
  rw [icells_length] at e1 e2 hc1 hc2
  obtain ⟨n, hn⟩ : ∃ n, l1.length = n := ⟨_, rfl⟩
  obtain ⟨m, hm⟩ : ∃ m, l2.length = m := ⟨_, rfl⟩
  rw [hn] at e1 hc1
  rw [hm] at e2 hc2
  subst e1 e2
  have hn9 : n ≤ maxLen := Nat.le_trans hc1 hm1
  unfold maxLen at hn9
  have HH1 := Lib.hid h1
  have HH2 := Lib.hid h2
  have HN := Lib.hid hn
  have HM := Lib.hid hm
  by_cases c : n = m
  · subst c
    generalize hP : (fun (e : Ending) (w' : World) => e = .returned (.bool (decide (l1 = l2))) ∧ Below w.heap.size w w') = P
    have HP := Lib.hid hP
    clear hP h1 h2 hn hm hc1 hc2 hm1 hm2
    go_enter Tryz.func8, Tryz.ntmps8
    go_wp2_with fail
    go_loopw [5] (fun i wx => ∃ j : Nat, j ≤ n ∧ i = .int .i64 j ∧ Hid (Below w.heap.size w wx) ∧ Hid (l1.take j = l2.take j)) (fun i _ => n - (intOf i).toNat)
    case atStart => exact ⟨0, Nat.zero_le _, rfl, Lib.hid (Below.refl _ _), Lib.hid rfl⟩
    case round =>
      obtain ⟨j, hj, rfl, HB, HE⟩ := hrel
      by_cases cj : j < n
      · have cj1 : (j : Int) < (n : Int) := by omega
        obtain ⟨x, hx⟩ : ∃ x, l1[j]? = some x := ⟨_, List.getElem?_eq_getElem (by rw [HN.out]; exact cj)⟩
        obtain ⟨y, hy⟩ : ∃ y, l2[j]? = some y := ⟨_, List.getElem?_eq_getElem (by rw [HM.out]; exact cj)⟩
        have q1 : QI wr B1 (.slice a1 n c1) l1 := HH1.out.step (F := fun _ => False) (Frm.of_below HB.out) (fun _ _ e => e)
        have q2 : QI wr B2 (.slice a2 n c2) l2 := HH2.out.step (F := fun _ => False) (Frm.of_below HB.out) (fun _ _ e => e)
        obtain ⟨g1, o1, cap1, e1, -, -, -, -, -, d1⟩ := QR.at q1 (by rw [icells_length, HN.out]; omega)
        obtain ⟨g2, o2, cap2, e2, -, -, -, -, -, d2⟩ := QR.at q2 (by rw [icells_length, HM.out]; omega)
        injection e1 with e1 e1' e1''
        injection e2 with e2 e2' e2''
        subst e1 e2
        have x0 : wr.cell? ⟨g1, o1 + j, none⟩ = some (.int .i64 x) := d1 j _ (icells_at hx)
        have y0 : wr.cell? ⟨g2, o2 + j, none⟩ = some (.int .i64 y) := d2 j _ (icells_at hy)
        have HX := Lib.hid (And.intro hx hy)
        have hjw : IntKind.i64.wrap ((j : Int) + 1) = ((j + 1 : Nat) : Int) := by rw [IntWalk.i64_in _ (by omega)]; omega
        have HB2 := Lib.hid (fun (q : Nat) => show Below w.heap.size w (wr.drewN q) from HB.out.trans ⟨rfl, rfl, rfl, Nat.le_refl _, fun _ _ => rfl⟩)
        clear q1 q2 d1 d2 e1' e1'' e2' e2'' hx hy
        by_cases cxy : x = y
        · subst cxy
          have HE2 := Lib.hid (show l1.take (j + 1) = l2.take (j + 1) by rw [List.take_add_one, List.take_add_one, HX.out.1, HX.out.2, HE.out])
          go_upto_region 6 with fail
          go_quiet (fail)
          go_wp2_with fail
          go_roundw
          case rel => exact ⟨j + 1, by omega, by first | rfl | go_num, Lib.hid (HB2.out _), HE2⟩
          case measure => simp [intOf]; omega
        · have HF := Lib.hid (fun (q : Nat) => show P (.returned (.bool false)) (wr.drewN q) by
            rw [← HP.out]
            have : decide (l1 = l2) = false := by
              rw [decide_eq_false_iff_not]
              rintro rfl
              have h1 := HX.out.1
              rw [HX.out.2] at h1
              injection h1 with h1
              exact cxy h1.symm
            rw [this]
            exact ⟨rfl, HB2.out q⟩)
          have cxyd : (x == y) = false := by simp [cxy]
          go_upto_region 6 with fail
          go_quiet (fail)
          go_wp2_with fail
          exact HF.out _
      · obtain rfl : j = n := by omega
        have cf : decide ((j : Int) < (j : Int)) = false := by simp
        have HF := Lib.hid (show P (.returned (.bool true)) wr by
          rw [← HP.out, decide_eq_true (take_eq_all HE.out HN.out HM.out)]
          exact ⟨rfl, HB.out⟩)
        go_wp2_with fail
        exact HF.out
  · have hd : decide (l1 = l2) = false := by
      rw [decide_eq_false_iff_not]
      rintro rfl
      exact c (hn.symm.trans hm)
    rw [hd]
    have hmn : ¬ (n : Int) = (m : Int) := by omega
    clear h1 h2 hn hm hc1 hc2 hm1 hm2 hd
    go_enter Tryz.func8, Tryz.ntmps8
    go_wp2_with fail
    go_ret
    exact ⟨rfl, Below.refl _ _⟩

end Go.Proofs.YtelfinhpjokmdaaGreatDoor

namespace Go.Proofs.YtelfinhpjokmdaaGreatDoor
set_option maxRecDepth 100000
open Go.RowKit Go.Joins Go.ChangeShapes Go.WideShapes
open Go.MapKept
set_option linter.unusedVariables false
set_option linter.unnecessarySimpa false
set_option linter.unusedSimpArgs false

/-- a table that was made behind w; F: the blocks that are the table's -/
structure TbA (w wx : World) (b : Nat) (F : Bl) (T : TbL RS) : Prop where
  ex : ∃ own L S, L.tb = b ∧ TbX wx w.heap.size own L S T ∧ ∀ k, F k ↔ own k ≠ .none
  bel : Below w.heap.size w wx
  ok : OkT okB T
section
variable {w wx wy : World} {b : Nat} {F G : Bl} {T : TbL RS}
theorem TbA.lo (h : TbA w wx b F T) {k : Nat} (hk : F k) : w.heap.size ≤ k := by
  obtain ⟨own, L, S, -, hX, hF⟩ := h.ex
  exact hX.mem.lo k ((hF k).1 hk)
theorem TbA.hi (h : TbA w wx b F T) {k : Nat} (hk : F k) : k < wx.heap.size := by
  obtain ⟨own, L, S, -, hX, hF⟩ := h.ex
  exact hX.hi k ((hF k).1 hk)
theorem TbA.inv (h : TbA w wx b F T) : InvL ordT mds T := by
  obtain ⟨own, L, S, -, hX, hF⟩ := h.ex
  exact hX.inv
theorem TbA.tabs (h : TbA w wx b F T) : Tabs wx := by
  obtain ⟨own, L, S, -, hX, hF⟩ := h.ex
  exact hX.tb.t
/-- what turns is behind w, and not the table's -/
theorem TbA.step (h : TbA w wx b F T) (hf : Frm G wx wy) (hG : ∀ k, G k → ¬ F k) (hw : ∀ k, G k → w.heap.size ≤ k) : TbA w wy b F T := by
  obtain ⟨own, L, S, e, hX, hF⟩ := h.ex
  refine ⟨⟨own, L, S, e, ⟨hX.mem.step hf fun k hk => ?_, hX.hi.below hf.size, hX.tb.frm hf hw, hX.rel, hX.inv⟩, hF⟩, h.bel.trans (hf.below hw h.bel.size), h.ok⟩
  exact Classical.byContradiction fun c => hG k hk ((hF k).2 c)
theorem TbA.below (h : TbA w wx b F T) (hb : Below wx.heap.size wx wy) : TbA w wy b F T := h.step (G := fun _ => False) (Frm.of_below hb) (fun _ e => e.elim) (fun _ e => e.elim)
/-- from one world to another only the table's blocks turned -/
def Went (w wx wy : World) (b : Nat) (F : Bl) (T : TbL RS) : Prop := ∃ F', TbA w wy b F' T ∧ Frm F wx wy ∧ New wx F F'
theorem went_of {own own' : Nat → Own} {L' : Lay} {S' : TS RS} (h : TbA w wx b F T) (hF : ∀ k, F k ↔ own k ≠ .none) {T' : TbL RS} (hL : L'.tb = b) (hX : TbX wy w.heap.size own' L' S' T') (hS : Stp wx own wy own') (hk : OkT okB T') : Went w wx wy b F T' := by
  have hf : Frm F wx wy := hS.frm.mono fun k hk => (hF k).2 hk
  refine ⟨fun k => own' k ≠ .none, ⟨⟨own', L', S', hL, hX, fun k => Iff.rfl⟩, h.bel.trans (hf.below (fun k hk => h.lo hk) h.bel.size), hk⟩, hf, fun k hk => ?_⟩
  rcases hS.new k hk with e | e
  · exact .inl ((hF k).2 e)
  · exact .inr e.1
theorem ta_new (w : World) (ht : Tabs w) : Calls Tryz.prog 5 #[] w fun e w' => ∃ b F, e = .returned (.pointer (some ⟨b, 0, none⟩)) ∧ TbA w w' b F ⟨[], []⟩ ∧ Below w.heap.size w w' ∧ ∀ k, F k → w.heap.size ≤ k := by
  refine (new_any w).mono ?_
  rintro e w' ⟨own, L, rfl, hM, hb, hh⟩
  refine ⟨L.tb, fun k => own k ≠ .none, rfl, ⟨⟨own, L, startS, rfl, ⟨hM, hh, ⟨ht.below hb, ht.1.1, ht.2.1⟩, rel_start, InvL.start ordT mds⟩, fun k => Iff.rfl⟩, hb, OkT.start okB⟩, hb, hM.lo⟩
theorem TbA.ask (h : TbA w wx b F T) (hZ : sizT T ≤ 4294967200) {t : Int} {s : RS} (hk : okB t s) (m : Int) :
    Calls Tryz.prog 6 #[.pointer (some ⟨b, 0, none⟩), .int .i64 t, .string ⟨s.toArray⟩, .int .i64 m] wx fun e w' => e = .returned (.int .i64 (askL ordT mds T t s m).2) ∧ Went w wx w' b F (askL ordT mds T t s m).1 := by
  obtain ⟨own, L, S, rfl, hX, hF⟩ := h.ex
  refine (ask_any hX hZ t s m).mono ?_
  rintro e w' ⟨rfl, own', L', S', e1, hX', hS⟩
  exact ⟨rfl, went_of h hF e1 hX' hS (h.ok.ask ordT mds hX.inv m hk)⟩
theorem TbA.drop (h : TbA w wx b F T) (hZ : sizT T ≤ 4294967200) (t : Int) :
    Calls Tryz.prog 9 #[.pointer (some ⟨b, 0, none⟩), .int .i64 t] wx fun e w' => ∃ v F', e = .returned v ∧ TbA w w' b F' (dropL ordT mds T t).1 ∧ Frm F wx w' ∧ New wx F F' ∧ QI w' wx.heap.size v (dropL ordT mds T t).2 ∧ ∀ k, v.ownBlock = some k → ¬ F' k := by
  obtain ⟨own, L, S, rfl, hX, hF⟩ := h.ex
  refine (drop_any hX hZ t).mono ?_
  rintro e w' ⟨v, own', L', S', rfl, e1, hX', hS, hq, hv⟩
  have hf : Frm F wx w' := hS.frm.mono fun k hk => (hF k).2 hk
  refine ⟨v, fun k => own' k ≠ .none, rfl, ⟨⟨own', L', S', e1, hX', fun k => Iff.rfl⟩, h.bel.trans (hf.below (fun k hk => h.lo hk) h.bel.size), h.ok.drop ordT mds hX.inv t⟩, hf, fun k hk => ?_, hq, fun k hk c => c (hv k hk)⟩
  rcases hS.new k hk with e | e
  · exact .inl ((hF k).2 e)
  · exact .inr e.1
theorem TbA.mode (h : TbA w wx b F T) (t : Int) (s : RS) :
    Calls Tryz.prog 15 #[.pointer (some ⟨b, 0, none⟩), .int .i64 t, .string ⟨s.toArray⟩] wx fun e w' => e = .returned (.int .i64 (mdO T.hv t s)) ∧ Below wx.heap.size wx w' := by
  obtain ⟨own, L, S, rfl, hX, hF⟩ := h.ex
  exact mode_any hX t s
theorem TbA.wish (h : TbA w wx b F T) (t : Int) :
    Calls Tryz.prog 13 #[.pointer (some ⟨b, 0, none⟩), .int .i64 t] wx fun e w' => e = .returned (.tuple #[encL ((wsh T.wt t).getD zL), .bool (wsh T.wt t).isSome]) ∧ Below wx.heap.size wx w' := by
  obtain ⟨own, L, S, rfl, hX, hF⟩ := h.ex
  exact wish_any hX t
theorem TbA.queue (h : TbA w wx b F T) (hZ : sizT T ≤ 4294967200) (s : RS) :
    Calls Tryz.prog 14 #[.pointer (some ⟨b, 0, none⟩), .string ⟨s.toArray⟩] wx fun e w' => ∃ v, e = .returned v ∧ OwL w' wx.heap.size v (que T.wt s) ∧ Below wx.heap.size wx w' := by
  obtain ⟨own, L, S, rfl, hX, hF⟩ := h.ex
  exact queue_any hX hZ s
theorem TbA.locks (h : TbA w wx b F T) (hZ : sizT T ≤ 4294967200) :
    Calls Tryz.prog 16 #[.pointer (some ⟨b, 0, none⟩)] wx fun e w' => ∃ v, e = .returned v ∧ OwL w' wx.heap.size v T.hv ∧ Below wx.heap.size wx w' := by
  obtain ⟨own, L, S, rfl, hX, hF⟩ := h.ex
  exact locks_any hX h.ok hZ
theorem TbA.edges (h : TbA w wx b F T) (hZ : sizT T ≤ 4294967200) (hE : T.wt.length * sizT T ≤ 549755813000) :
    Calls Tryz.prog 12 #[.pointer (some ⟨b, 0, none⟩)] wx fun e w' => ∃ v E, e = .returned v ∧ OwG w' wx.heap.size v E ∧ EdS mds T E ∧ Below wx.heap.size wx w' := by
  obtain ⟨own, L, S, rfl, hX, hF⟩ := h.ex
  exact edges_any hX h.ok hZ hE
end

end Go.Proofs.YtelfinhpjokmdaaGreatDoor

namespace Go.Proofs.YtelfinhpjokmdaaGreatDoor
set_option maxRecDepth 100000
open Go.RowKit Go.Joins Go.ChangeShapes Go.WideShapes
open Go.MapKept
set_option linter.unusedVariables false
set_option linter.unnecessarySimpa false
set_option linter.unusedSimpArgs false

def spT0 : TbL RS := ⟨[], []⟩
def spT1 : TbL RS := ⟨[⟨1, [97], 3⟩], []⟩
def spT2 : TbL RS := ⟨[⟨1, [97], 3⟩], [⟨⟨2, [97], 6⟩, false⟩]⟩
def spT3 : TbL RS := ⟨[⟨1, [97], 3⟩], [⟨⟨2, [97], 6⟩, false⟩, ⟨⟨3, [97], 3⟩, false⟩]⟩
def spT4 : TbL RS := ⟨[⟨2, [97], 6⟩], [⟨⟨3, [97], 3⟩, false⟩]⟩
def spT5 : TbL RS := ⟨[⟨3, [97], 3⟩], []⟩
theorem sp1 : askL ordT mds spT0 1 [97] 3 = (spT1, 1) := by rfl
theorem sp2 : askL ordT mds spT1 2 [97] 6 = (spT2, 2) := by rfl
theorem sp3 : askL ordT mds spT2 3 [97] 3 = (spT3, 2) := by rfl
theorem sp4 : askL ordT mds spT3 3 [98] 3 = (spT3, 0) := by rfl
theorem sp5 : dropL ordT mds spT3 1 = (spT4, [2]) := by rfl
theorem sp6 : dropL ordT mds spT4 2 = (spT5, [3]) := by rfl
theorem sp7 : (wsh spT3.wt 2).getD zL = ⟨2, [97], 6⟩ ∧ (wsh spT3.wt 2).isSome = true := ⟨rfl, rfl⟩
theorem sp8 : (que spT3.wt [97]).length = 2 := by rfl
theorem sp9 : mdO spT5.hv 3 [97] = 3 := by rfl
theorem sp10 : EdS mds spT3 [(2, 1), (3, 2)] := by
  refine ⟨by decide, fun e => ?_⟩
  constructor
  · intro h
    simp only [List.mem_cons, List.not_mem_nil, or_false] at h
    rcases h with rfl | rfl
    · exact ⟨⟨⟨2, [97], 6⟩, false⟩, by simp [spT3], rfl, .inl ⟨⟨1, [97], 3⟩, by simp [spT3], rfl, by decide, rfl, rfl⟩⟩
    · exact ⟨⟨⟨3, [97], 3⟩, false⟩, by simp [spT3], rfl, .inr (by show (2 : Int) ∈ aheadQ (que spT3.wt [97]) 3; decide)⟩
  · rintro ⟨w, hw, e1, h⟩
    obtain ⟨a, b⟩ := e
    have hw' : w = ⟨⟨2, [97], 6⟩, false⟩ ∨ w = ⟨⟨3, [97], 3⟩, false⟩ := by simpa [spT3] using hw
    rcases hw' with rfl | rfl
    · have e1 : (2 : Int) = a := e1
      subst e1
      rcases h with ⟨x, hx, -, -, -, e2⟩ | h
      · have hx' : x = ⟨1, [97], 3⟩ := by simpa [spT3] using hx
        rw [hx'] at e2
        have e2 : (1 : Int) = b := e2
        simp [← e2]
      · have h' : b ∈ aheadQ (que spT3.wt [97]) 2 := h
        have : aheadQ (que spT3.wt [97]) 2 = [] := by rfl
        rw [this] at h'
        cases h'
    · have e1 : (3 : Int) = a := e1
      subst e1
      rcases h with ⟨x, hx, -, -, e3, -⟩ | h
      · have hx' : x = ⟨1, [97], 3⟩ := by simpa [spT3] using hx
        rw [hx'] at e3
        cases e3
      · have h' : b ∈ aheadQ (que spT3.wt [97]) 3 := h
        have : aheadQ (que spT3.wt [97]) 3 = [2] := by rfl
        rw [this] at h'
        have : b = 2 := by simpa using h'
        simp [this]
theorem okB_small (t : Int) (s : RS) (h : (Lit.int .i64 t).wf = true) (h2 : s.length ≤ 1) : okB t s := ⟨h, by unfold maxLen; omega⟩

end Go.Proofs.YtelfinhpjokmdaaGreatDoor

namespace Go.Proofs.YtelfinhpjokmdaaGreatDoor
set_option maxRecDepth 100000
open Go.RowKit Go.Joins Go.ChangeShapes Go.WideShapes
open Go.MapKept
set_option linter.unusedVariables false
set_option linter.unnecessarySimpa false
set_option linter.unusedSimpArgs false

theorem qi_box (w : World) (x : Int) : QI (w.alloc (.cells #[.int .i64 x] 3)) w.heap.size (.slice (some ⟨w.heap.size, 0, none⟩) 1 1) [x] := by
  refine .inr ⟨w.heap.size, 0, 1, #[.int .i64 x], rfl, Nat.le_refl _, heap_alloc_new w _, Nat.le_refl _, by decide, by simp, fun i u hu => ?_⟩
  match i with
  | 0 => simpa [icells] using hu
  | i + 1 => simp [icells] at hu
set_option maxHeartbeats 8000000 in
theorem speaks10_any (w : World) (ht : Tabs w) : Calls Tryz.prog 4 #[] w fun e w' => e = .returned (.bool true) ∧ Below w.heap.size w w' := by
  generalize hP : (fun (e : Ending) (w' : World) => e = .returned (.bool true) ∧ Below w.heap.size w w') = P
  have HP := Lib.hid hP
  clear hP
  have HN := Lib.hid (ta_new w ht)
  have k1 := okB_small 1 [97] (by decide) (by decide)
  have k2 := okB_small 2 [97] (by decide) (by decide)
  have k3 := okB_small 3 [97] (by decide) (by decide)
  have k4 := okB_small 3 [98] (by decide) (by decide)
  have HK := Lib.hid (And.intro k1 (And.intro k2 (And.intro k3 k4)))
  clear k1 k2 k3 k4 ht
  go_enter Tryz.func4, Tryz.ntmps4
  go_wp2_with fail
  refine HN.out.mono ?_
  rintro e w1 ⟨b, F1, rfl, hA1, -, -⟩
  have hC1 := TbA.ask (T := spT0) hA1 (by decide) HK.out.1 3
  simp only [sp1] at hC1
  have HC1 := Lib.hid hC1
  clear HN hA1 hC1
  go_wp2_with fail
  refine HC1.out.mono ?_
  rintro e w2 ⟨rfl, F2, hA2, -, -⟩
  have hC2 := hA2.ask (by decide) HK.out.2.1 6
  simp only [sp2] at hC2
  have HC2 := Lib.hid hC2
  clear HC1 hA2 hC2
  go_wp2_with fail
  refine HC2.out.mono ?_
  rintro e w3 ⟨rfl, F3, hA3, -, -⟩
  have hC3 := hA3.ask (by decide) HK.out.2.2.1 3
  simp only [sp3] at hC3
  have HC3 := Lib.hid hC3
  clear HC2 hA3 hC3
  go_wp2_with fail
  refine HC3.out.mono ?_
  rintro e w4 ⟨rfl, F4, hA4, -, -⟩
  have hC4 := hA4.ask (by decide) HK.out.2.2.2 3
  simp only [sp4] at hC4
  have HC4 := Lib.hid hC4
  clear HC3 hA4 hC4
  go_wp2_with fail
  refine HC4.out.mono ?_
  rintro e w5 ⟨rfl, F5, hA5, -, -⟩
  have HA5 := Lib.hid hA5
  have HC5 := Lib.hid (hA5.edges (by decide) (by decide))
  clear HC4 hA5
  go_wp2_with fail
  refine HC5.out.mono ?_
  rintro e w6 ⟨ve, E, rfl, hoe, he, hb6⟩
  obtain ⟨xe, ce, rfl, -, -⟩ := hoe.sl
  rw [he.one mds sp10]
  have HA6 := Lib.hid (HA5.out.below hb6)
  have hC6 := HA6.out.wish 2
  rw [sp7.1, sp7.2] at hC6
  unfold encL at hC6
  have HC6 := Lib.hid hC6
  clear HC5 HA5 hoe he hb6 hC6
  go_wp2_with fail
  refine HC6.out.mono ?_
  rintro e w7 ⟨rfl, hb7⟩
  have HA7 := Lib.hid (HA6.out.below hb7)
  obtain ⟨W8, hW8⟩ : ∃ W8, w7.alloc (.cells #[.int .i64 2, .string ⟨([97] : RS).toArray⟩, .int .i64 6] 42) = W8 := ⟨_, rfl⟩
  have hb8 : Below w7.heap.size w7 W8 := by rw [← hW8]; exact (Below.refl _ _).alloc (Nat.le_refl _) _
  have hx8 : W8.heap[w7.heap.size]? = some (.cells #[.int .i64 2, .string ⟨([97] : RS).toArray⟩, .int .i64 6] 42 (0, 0)) := by rw [← hW8]; exact heap_alloc_new w7 _
  have HA8 := Lib.hid (HA7.out.below hb8)
  have HX8 := Lib.hid hx8
  have HC8 := Lib.hid (HA8.out.queue (by decide) [97])
  clear HC6 HA6 HA7 hb7 hb8 hx8
  go_upto_region 6 with fail
  try rw [hW8]
  clear hW8
  go_wp2_with fail
  refine HC8.out.mono ?_
  rintro e w9 ⟨vq, rfl, hoq, hb9⟩
  obtain ⟨xq, cq, rfl, -, -⟩ := hoq.sl
  rw [sp8]
  have HA9 := Lib.hid (HA8.out.below hb9)
  have hx9 : w9.heap[w7.heap.size]? = some (.cells #[.int .i64 2, .string ⟨([97] : RS).toArray⟩, .int .i64 6] 42 (0, 0)) := (hb9.block _ (Array.getElem?_eq_some_iff.1 HX8.out).1).trans HX8.out
  have c0 : w9.cell? ⟨w7.heap.size, 0, none⟩ = some (.int .i64 2) := by rw [cell_of_block hx9]; rfl
  have c1 : w9.cell? ⟨w7.heap.size, 1, none⟩ = some (.string ⟨([97] : RS).toArray⟩) := by rw [cell_of_block hx9]; rfl
  have c2 : w9.cell? ⟨w7.heap.size, 2, none⟩ = some (.int .i64 6) := by rw [cell_of_block hx9]; rfl
  have hC9 := HA9.out.drop (by decide) 1
  simp only [sp5] at hC9
  have HC9 := Lib.hid hC9
  clear HC8 HA8 hoq hb9 hx9 hC9
  go_wp2_with fail
  refine HC9.out.mono ?_
  rintro e w10 ⟨v1, F6, rfl, hA10, -, -, hq1, -⟩
  have hb11 : Below w10.heap.size w10 (w10.alloc (.cells #[.int .i64 2] 3)) := (Below.refl _ _).alloc (Nat.le_refl _) _
  have hs1 := (sames_any _ _ _ _ _ _ _ (hq1.step (F := fun _ => False) (Frm.of_below hb11) (fun _ _ e => e)) (qi_box w10 2))
  rw [decide_eq_true (rfl : ([2] : List Int) = [2])] at hs1
  have HS1 := Lib.hid hs1
  clear hs1
  have HA11 := Lib.hid (hA10.below hb11)
  clear HC9 HA9 hA10 hq1 hb11 c0 c1 c2
  go_wp2_with fail
  refine HS1.out.mono ?_
  rintro e w12 ⟨rfl, hb12⟩
  have HA12 := Lib.hid (HA11.out.below hb12)
  have hC12 := HA12.out.drop (by decide) 2
  simp only [sp6] at hC12
  have HC12 := Lib.hid hC12
  clear HS1 HA11 hb12 hC12
  go_wp2_with fail
  refine HC12.out.mono ?_
  rintro e w13 ⟨v2, F7, rfl, hA13, -, -, hq2, -⟩
  have hb14 : Below w13.heap.size w13 (w13.alloc (.cells #[.int .i64 3] 3)) := (Below.refl _ _).alloc (Nat.le_refl _) _
  have hs2 := (sames_any _ _ _ _ _ _ _ (hq2.step (F := fun _ => False) (Frm.of_below hb14) (fun _ _ e => e)) (qi_box w13 3))
  rw [decide_eq_true (rfl : ([3] : List Int) = [3])] at hs2
  have HS2 := Lib.hid hs2
  clear hs2
  have HA14 := Lib.hid (hA13.below hb14)
  clear HC12 HA12 hA13 hq2 hb14
  go_wp2_with fail
  refine HS2.out.mono ?_
  rintro e w15 ⟨rfl, hb15⟩
  have HA15 := Lib.hid (HA14.out.below hb15)
  have hC15 := HA15.out.mode 3 [97]
  rw [sp9] at hC15
  have HC15 := Lib.hid hC15
  clear HS2 HA14 hb15 hC15
  go_wp2_with fail
  refine HC15.out.mono ?_
  rintro e w16 ⟨rfl, hb16⟩
  have HA16 := Lib.hid (HA15.out.below hb16)
  have HC16 := Lib.hid (HA16.out.locks (by decide))
  clear HC15 HA15 hb16
  go_wp2_with fail
  refine HC16.out.mono ?_
  rintro e w17 ⟨vl, rfl, hol, hb17⟩
  obtain ⟨xl, cl, rfl, -, -⟩ := hol.sl
  rw [show spT5.hv.length = 1 from rfl]
  have HF := Lib.hid (show P (.returned (.bool true)) w17 by
    rw [← HP.out]
    exact ⟨rfl, (HA16.out.below hb17).bel⟩)
  clear HC16 HA16 hol hb17
  go_wp2_with fail
  exact HF.out

end Go.Proofs.YtelfinhpjokmdaaGreatDoor
