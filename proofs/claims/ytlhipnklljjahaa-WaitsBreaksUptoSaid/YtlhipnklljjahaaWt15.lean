/-
  A range over a map of the program's own, whatever its values; a map of counts.
  Conditions: none.
-/
import Derived.Test.YtlhipnklljjahaaWt13
import Derived.Test.YtlhipnklljjahaaWt14
import Derived.Maps.RangeRun
import Derived.Maps.RangeWalk
namespace Go.Proofs.Ytlhipnklljjahaa
open Go.RowKit Go.Joins Go.ChangeShapes Go.WideShapes
open Go.MapKept
open Go.ChangeMaps (setBlock)
set_option linter.unusedVariables false
set_option linter.unnecessarySimpa false
set_option linter.unusedSimpArgs false

/-- a range over a map under way: which keys are left, and how many -/
def IRg (w : World) (b r : Nat) (f : Int → Option Value) (left : Int → Bool) (cnt : Nat) : Prop :=
  ∃ es clock since seen c0, w.heap[b]? = some (.map es clock) ∧ Stamped es clock ∧ (∀ x ∈ es.toList, ∃ k, x.key = ik k) ∧ (∀ k v, f k = some v ↔ ∃ e ∈ es.toList, e.key = ik k ∧ e.val = v) ∧
    w.heap[r]? = some (.mapIter (some b) since seen c0) ∧ (∀ x ∈ es.toList, x.born < since) ∧ (leftOf es seen).size = cnt ∧ since ≤ c0 ∧ since ≤ clock ∧ (∀ k, left k = true ↔ ∃ x ∈ es.toList, x.key = ik k ∧ seen.contains x.born = false)
/-- how many are left, read off the world -/
def rgLeft (w : World) (b r : Nat) : Nat :=
  match w.heap[b]?, w.heap[r]? with
  | some (.map es _), some (.mapIter _ _ seen _) => (leftOf es seen).size
  | _, _ => 0
theorem IRg.left_eq {w : World} {b r : Nat} {f : Int → Option Value} {left : Int → Bool} {cnt : Nat} (h : IRg w b r f left cnt) : rgLeft w b r = cnt := by
  obtain ⟨es, clock, since, seen, c0, h1, -, -, -, h2, -, h3, -⟩ := h
  unfold rgLeft
  rw [h1, h2]
  exact h3
theorem IRg.lt {w : World} {b r : Nat} {f : Int → Option Value} {left : Int → Bool} {cnt : Nat} (h : IRg w b r f left cnt) : b < w.heap.size ∧ r < w.heap.size := by
  obtain ⟨es, clock, since, seen, c0, h1, -, -, -, h2, -⟩ := h
  exact ⟨(Array.getElem?_eq_some_iff.1 h1).1, (Array.getElem?_eq_some_iff.1 h2).1⟩
theorem IRg.ne {w : World} {b r : Nat} {f : Int → Option Value} {left : Int → Bool} {cnt : Nat} (h : IRg w b r f left cnt) : r ≠ b := by
  obtain ⟨es, clock, since, seen, c0, h1, -, -, -, h2, -⟩ := h
  rintro rfl
  rw [h1] at h2
  injection h2 with h2
  cases h2
theorem IRg.step {w w1 : World} {b r : Nat} {f : Int → Option Value} {left : Int → Bool} {cnt : Nat} {F : Bl} (h : IRg w b r f left cnt) (hf : Frm F w w1) (hb : ¬ F b) (hr : ¬ F r) : IRg w1 b r f left cnt := by
  have hl := h.lt
  obtain ⟨es, clock, since, seen, c0, h1, q1, q2, q3, h2, rest⟩ := h
  exact ⟨es, clock, since, seen, c0, (hf.heap hl.1 hb).trans h1, q1, q2, q3, (hf.heap hl.2 hr).trans h2, rest⟩
theorem IRg.key {w : World} {b r : Nat} {f : Int → Option Value} {left : Int → Bool} {cnt : Nat} (h : IRg w b r f left cnt) {k : Int} (hk : left k = true) : ∃ v, f k = some v := by
  obtain ⟨es, clock, since, seen, c0, h1, q1, q2, q3, h2, q4, q5, q6, q7, q8⟩ := h
  obtain ⟨x, hx, e, -⟩ := (q8 k).1 hk
  exact ⟨_, (q3 k x.val).2 ⟨x, hx, e, rfl⟩⟩
/-- the range begins -/
theorem IMap.range {w : World} {b n : Nat} {f : Int → Option Value} {P : Program} (h : IMap (.int .i64) ik w b f n) {t kt et : TypeId} (ht : P.underlying t = some (.map kt et)) :
    ∃ w', (Instr.range t (.map (some b))).run P w = .ok (.pointer (some ⟨w.heap.size, 0, none⟩)) w' ∧ IRg w' b w.heap.size f (fun k => (f k).isSome) n ∧ Below w.heap.size w w' := by
  have hlt := h.lt
  obtain ⟨es, clock, h1, h2, h3, h4, rfl⟩ := h
  have hb : Below w.heap.size w (w.alloc (.mapIter (some b) clock #[] clock)) := (Below.refl _ _).alloc (Nat.le_refl _) _
  refine ⟨_, run_range_map w t kt et b es clock ht h1, ⟨es, clock, clock, #[], clock, (hb.block _ hlt).trans h1, h2, h3, h4, heap_alloc_new w _, ((stamped_iff es clock).1 h2).1, ?_, Nat.le_refl _, Nat.le_refl _, fun k => ?_⟩, hb⟩
  · simp [leftOf]
  · constructor
    · intro hk
      obtain ⟨v, hv⟩ := Option.isSome_iff_exists.1 hk
      obtain ⟨e, he, e1, -⟩ := (h4 k v).1 hv
      exact ⟨e, he, e1, by simp⟩
    · rintro ⟨x, hx, e1, -⟩
      have := (h4 k x.val).2 ⟨x, hx, e1, rfl⟩
      show (f k).isSome = true
      rw [this]; rfl
/-- a step of the range -/
theorem IRg.next {w : World} {b r : Nat} {f : Int → Option Value} {left : Int → Bool} {cnt : Nat} {P : Program} (h : IRg w b r f left cnt) (ty : TypeId) :
    (cnt = 0 ∧ (∀ k, left k = false) ∧ (Instr.next (.pointer (some ⟨r, 0, none⟩)) false ty).run P w = .ok (.tuple #[.bool false]) w) ∨
    ∃ k v w' cnt', left k = true ∧ f k = some v ∧ (Instr.next (.pointer (some ⟨r, 0, none⟩)) false ty).run P w = .ok (.tuple #[.bool true, ik k, v]) w' ∧ IRg w' b r f (fun z => left z && z != k) cnt' ∧ cnt' < cnt ∧ Frm (fun k => k = r) w w' ∧
      (Instr.entry (.pointer (some ⟨r, 0, none⟩))).run P w' = .ok (.tuple #[ik k, v]) w' := by
  have hne := h.ne
  obtain ⟨es, clock, since, seen, c0, h1, q1, q2, q3, h2, q4, rfl, q6, q7, q8⟩ := h
  rcases run_next_at (P := P) w ty r b since c0 seen es clock h2 h1 q4 q6 with ⟨h0, hrun⟩ | ⟨e, he, w1, hal, hrun⟩
  · refine .inl ⟨h0, fun k => ?_, hrun⟩
    cases hk : left k with
    | false => rfl
    | true =>
      obtain ⟨x, hx, -, hs⟩ := (q8 k).1 hk
      rw [all_seen es seen h0 x hx] at hs
      cases hs
  · obtain ⟨hem, hes⟩ := mem_left he
    obtain ⟨k, hk⟩ := q2 e hem
    have hr1 : w1.heap[r]? = some (.mapIter (some b) since seen c0) := by rcases hal with rfl | rfl <;> exact h2
    have hb1 : w1.heap[b]? = some (.map es clock) := by rcases hal with rfl | rfl <;> exact h1
    have hset := heap_set (o' := .mapIter (some b) since (seen.push e.born) clock) hr1
    have hb' : (setBlock w1 r (.mapIter (some b) since (seen.push e.born) clock)).heap[b]? = some (.map es clock) := (hset.2 b (fun e1 => hne e1.symm)).trans hb1
    refine .inr ⟨k, e.val, _, _, (q8 k).2 ⟨e, hem, hk, hes⟩, (q3 k e.val).2 ⟨e, hem, hk, rfl⟩, by rw [← hk]; exact hrun,
      ⟨es, clock, since, seen.push e.born, clock, hb', q1, q2, q3, hset.1, q4, rfl, q7, q7, fun z => ?_⟩, left_shrinks es seen e he, ?_, ?_⟩
    · simp only [Bool.and_eq_true, q8, bne_iff_ne, ne_eq]
      constructor
      · rintro ⟨⟨x, hx, hxk, hxs⟩, hz⟩
        refine ⟨x, hx, hxk, ?_⟩
        rw [contains_push, hxs]
        have : x.born ≠ e.born := fun hb => by
          have := born_inj ((stamped_iff es clock).1 q1).2.1 hx hem hb
          subst this
          exact hz (ik_inj _ _ (hxk.symm.trans hk))
        simp [this]
      · rintro ⟨x, hx, hxk, hxs⟩
        rw [contains_push] at hxs
        have hx1 : seen.contains x.born = false := by cases hc : seen.contains x.born with | false => rfl | true => rw [hc] at hxs; simp at hxs
        refine ⟨⟨x, hx, hxk, hx1⟩, fun hz => ?_⟩
        subst hz
        have := IMap.uniq q1 hx hem (hxk.trans hk.symm)
        subst this
        simp at hxs
    · rcases hal with rfl | rfl <;> exact ⟨rfl, rfl, rfl, by simp [setBlock], fun i _ hi => hset.2 i hi⟩
    · rw [← hk]
      exact run_entry_at _ r b since seen es clock e hset.1 hb' hem ((stamped_iff es clock).1 q1).2.1
theorem wp_rnext {w : World} {ops : Array Oper} {rest : List Oper} {o : Oper} {a : Act} {P : Program} {Q : Exit → Act → World → Prop} (hg : o.guard = none) (it : Operand) (hop : o.op = Op.next it false) {b r : Nat} {f : Int → Option Value} {left : Int → Bool} {cnt : Nat}
    (hit : a.eval it = .pointer (some ⟨r, 0, none⟩)) (h : IRg w b r f left cnt) (hDone : cnt = 0 → (∀ k, left k = false) → wpList P ops Q rest (a.put o.dst (.tuple #[.bool false])) w)
    (hMore : ∀ k v w' cnt', left k = true → f k = some v → IRg w' b r f (fun z => left z && z != k) cnt' → cnt' < cnt → Frm (fun k => k = r) w w' → (Instr.entry (.pointer (some ⟨r, 0, none⟩))).run P w' = .ok (.tuple #[.int .i64 k, v]) w' → wpList P ops Q rest (a.put o.dst (.tuple #[.bool true, .int .i64 k, v])) w') :
    wpList P ops Q (o :: rest) a w := by
  refine wpList_plain hg fun K' hK' => ?_
  unfold Oper.wp
  rcases h.next (P := P) o.type with ⟨h0, hl, hrun⟩ | ⟨k, v, w', cnt', hl, hv, hrun, hrg, hlt, hf, hen⟩
  · simp [execOp, hop, hit, hrun, Result.andThen]
    exact hK' _ _ (hDone h0 hl)
  · simp [execOp, hop, hit, hrun, Result.andThen]
    exact hK' _ _ (hMore k v w' cnt' hl hv hrg hlt hf hen)

/-- a map of counts -/
def CntM (w : World) (b : Nat) (A : Int → Nat) : Prop := ∃ f n, IMap (.int .i64) ik w b f n ∧ ∀ x, (f x).getD (.int .i64 0) = .int .i64 (A x : Int)
theorem CntM.lt {w : World} {b : Nat} {A : Int → Nat} (h : CntM w b A) : b < w.heap.size := by obtain ⟨f, n, h1, -⟩ := h; exact h1.lt
theorem CntM.step {w w1 : World} {b : Nat} {A : Int → Nat} {F : Bl} (h : CntM w b A) (hf : Frm F w w1) (hb : ¬ F b) : CntM w1 b A := by
  obtain ⟨f, n, h1, h2⟩ := h
  exact ⟨f, n, h1.step hf hb, h2⟩
theorem CntM.below {w w1 : World} {b : Nat} {A : Int → Nat} (h : CntM w b A) (hb : Below w.heap.size w w1) : CntM w1 b A := h.step (F := fun _ => False) (Frm.of_below hb) (fun h => h)
theorem cntm_made (w : World) (b : Nat) (hb : w.heap.size = b) : CntM (w.alloc (.map #[] 0)) b (fun _ => 0) := ⟨_, _, imap_made (.int .i64) ik w b hb, fun _ => rfl⟩
theorem CntM.look {w : World} {b : Nat} {A : Int → Nat} (h : CntM w b A) (x : Int) : (Instr.lookup 53 (.map (some b)) (.int .i64 x) false).run Try.prog w = .ok (.int .i64 (A x : Int)) w := by
  obtain ⟨f, n, h1, h2⟩ := h
  have := h1.look (P := Try.prog) (t := 53) Try.underlying53 Try.underlying3 ik_key (z := .int .i64 0) rfl x false
  rw [← h2 x]
  simpa using this
theorem CntM.put {w : World} {b : Nat} {A : Int → Nat} (h : CntM w b A) (x : Int) (z : Nat) : ∃ w', (Instr.mapUpdate 53 (.map (some b)) (.int .i64 x) (.int .i64 (z : Int))).run Try.prog w = .ok () w' ∧ CntM w' b (setA A x z) ∧ Frm (fun k => k = b) w w' := by
  obtain ⟨f, n, h1, h2⟩ := h
  obtain ⟨w', hr, m, g, -⟩ := h1.put (P := Try.prog) (t := 53) Try.underlying53 Try.underlying3 ik_key ik_inj x (.int .i64 (z : Int))
  refine ⟨w', hr, ⟨_, _, m, fun y => ?_⟩, Frm.grown (Frm.refl _ w) g (fun k hk => by injection hk with hk; exact .inl hk.symm)⟩
  unfold setA
  split
  · rfl
  · exact h2 y
/-- an entry struck out of a map of lists -/
theorem GrM.del {B : Nat} {w : World} {b : Nat} {f : Int → Option Value} {n : Nat} {M : Int → List Int} (h : GrM B w b f n M) (x : Int) (ty : TypeId) :
    ∃ w' n', (Builtin.delete_ #[33, 3] ty #[.map (some b), .int .i64 x]).run Try.prog w = .ok (.tuple #[]) w' ∧ GrM B w' b (fun k => if k = x then none else f k) n' (fun k => if k = x then [] else M k) ∧ Frm (fun k => k = b) w w' := by
  obtain ⟨w', hr, m, g, -⟩ := h.mp.del (P := Try.prog) (t := 33) (ty := ty) Try.underlying33 Try.underlying3 ik_key ik_inj x
  have hf : Frm (fun k => k = b) w w' := Frm.grown (Frm.refl _ w) g (fun k hk => by injection hk with hk; exact .inl hk.symm)
  refine ⟨w', _, hr, ⟨m, fun z hz => ?_, fun z v hv => ?_, fun z hz => ?_, fun z z' u u' hne hu hu' => ?_, h.bb⟩, hf⟩
  · split
    · rfl
    · rename_i c; rw [if_neg c] at hz; exact h.no z hz
  · split at hv
    · cases hv
    · rename_i c
      rw [if_neg c]
      have hq := h.yes z v hv
      exact hq.step hf (fun k hk e => QR.not_map hq h.mp (by rw [hk, e]))
  · split
    · rename_i c; rw [if_pos c] at hz; exact absurd rfl hz
    · rename_i c; rw [if_neg c] at hz; exact h.ex z hz
  · split at hu
    · cases hu
    · split at hu'
      · cases hu'
      · exact h.dj z z' u u' hne hu hu'
/-- how many keys there are -/
theorem IMap.pos {w : World} {b n : Nat} {f : Int → Option Value} (h : IMap (.int .i64) ik w b f n) : 0 < n ↔ ∃ k v, f k = some v := by
  obtain ⟨es, clock, h1, h2, h3, h4, rfl⟩ := h
  constructor
  · intro hp
    have : 0 < es.toList.length := by simpa using hp
    obtain ⟨e, he⟩ := List.exists_mem_of_length_pos this
    obtain ⟨k, hk⟩ := h3 e he
    exact ⟨k, e.val, (h4 k _).2 ⟨e, he, hk, rfl⟩⟩
  · rintro ⟨k, v, hv⟩
    obtain ⟨e, he, -⟩ := (h4 k v).1 hv
    have := List.length_pos_of_mem he
    simpa using this

end Go.Proofs.Ytlhipnklljjahaa
