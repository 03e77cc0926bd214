/-
  A map of the program's own: what stands under each key, and how many keys there are.
  Conditions: keys are integers, bools or texts.
-/
import Derived.Test.YtccjeclncmogiaaFrm
import Derived.Maps.OwnOps
namespace Go.Proofs.Ytccjeclncmogiaa
open Go.RowKit Go.Joins Go.ChangeShapes Go.WideShapes
open Go.MapKept
set_option linter.unusedVariables false
set_option linter.unusedSimpArgs false

/-- block b is a map: under key k stands f k; n keys -/
def IMap {K : Type} (d : TypeDesc) (enc : K → Value) (w : World) (b : Nat) (f : K → Option Value) (n : Nat) : Prop :=
  ∃ es clock, w.heap[b]? = some (.map es clock) ∧ Stamped es clock ∧ (∀ x ∈ es.toList, ∃ k, x.key = enc k) ∧ (∀ k v, f k = some v ↔ ∃ e ∈ es.toList, e.key = enc k ∧ e.val = v) ∧ es.size = n
theorem IMap.lt {K : Type} {d : TypeDesc} {enc : K → Value} {w : World} {b n : Nat} {f : K → Option Value} (h : IMap d enc w b f n) : b < w.heap.size := by
  obtain ⟨es, clock, h1, -⟩ := h
  exact (Array.getElem?_eq_some_iff.1 h1).1
theorem IMap.heap {K : Type} {d : TypeDesc} {enc : K → Value} {w w1 : World} {b n : Nat} {f : K → Option Value} (h : IMap d enc w b f n) (hh : w1.heap[b]? = w.heap[b]?) : IMap d enc w1 b f n := by
  obtain ⟨es, clock, h1, h2⟩ := h
  exact ⟨es, clock, hh.trans h1, h2⟩
theorem IMap.step {K : Type} {d : TypeDesc} {enc : K → Value} {w w1 : World} {b n : Nat} {f : K → Option Value} {F : Bl} (h : IMap d enc w b f n) (hf : Frm F w w1) (hb : ¬ F b) : IMap d enc w1 b f n :=
  h.heap (hf.heap h.lt hb)
theorem IMap.below {K : Type} {d : TypeDesc} {enc : K → Value} {w w1 : World} {b n : Nat} {f : K → Option Value} (h : IMap d enc w b f n) (hb : Below w.heap.size w w1) : IMap d enc w1 b f n :=
  h.heap (hb.block _ h.lt)
theorem imap_made {K : Type} (d : TypeDesc) (enc : K → Value) (w : World) (n : Nat) (hn : w.heap.size = n) : IMap d enc (w.alloc (.map #[] 0)) n (fun _ => none) 0 := by
  subst hn
  exact ⟨#[], 0, heap_alloc_new w _, stamped_empty 0, by simp, by simp, rfl⟩
theorem nodup_keys {es : Array MapEntry} {clock : Nat} (h : Stamped es clock) {i j : Nat} {a b : MapEntry} (ha : es.toList[i]? = some a) (hb : es.toList[j]? = some b) (hk : a.key = b.key) : i = j := by
  obtain ⟨-, -, h3⟩ := h
  have e1 : (es.toList.map (·.key))[i]? = some a.key := by rw [List.getElem?_map, ha]; rfl
  have e2 : (es.toList.map (·.key))[j]? = some a.key := by rw [List.getElem?_map, hb, hk]; rfl
  have := (List.getElem?_inj (List.getElem?_eq_some_iff.1 e1).1 h3).1 (e1.trans e2.symm)
  exact this
section
variable {K : Type} {d : TypeDesc} {enc : K → Value} {w : World} {b n : Nat} {f : K → Option Value} {P : Program}
theorem IMap.uniq {es : Array MapEntry} {clock : Nat} (h : Stamped es clock) {e1 e2 : MapEntry} (h1 : e1 ∈ es.toList) (h2 : e2 ∈ es.toList) (hk : e1.key = e2.key) : e1 = e2 := by
  obtain ⟨i, hi⟩ := List.getElem?_of_mem h1
  obtain ⟨j, hj⟩ := List.getElem?_of_mem h2
  have := nodup_keys h hi hj hk
  subst this
  rw [hi] at hj
  injection hj
/-- m[k] -/
theorem IMap.look (h : IMap d enc w b f n) {t kt et : TypeId} (ht : P.underlying t = some (.map kt et)) (hd : P.underlying kt = some d) (hK : ∀ k, IsKey d (enc k)) {z : Value} (hz : (zeroValue et).run P w = .ok z w) (k : K) (c : Bool) :
    (Instr.lookup t (.map (some b)) (enc k) c).run P w = .ok (if c then .tuple #[(f k).getD z, .bool (f k).isSome] else (f k).getD z) w := by
  obtain ⟨es, clock, h1, h2, h3, h4, -⟩ := h
  have hks : ∀ x ∈ es.toList, IsKey d x.key := fun x hx => by obtain ⟨k, e⟩ := h3 x hx; rw [e]; exact hK k
  rcases findNow_spec (hK k) es.toList 0 hks with ⟨q1, q2⟩ | ⟨j, e, q1, q2, q3⟩
  · have hf : f k = none := by
      cases hv : f k with
      | none => rfl
      | some v => obtain ⟨e, he, hk, -⟩ := (h4 k v).1 hv; exact absurd hk (q2 e he)
    simp [Instr.lookup, run_underlying ht, Go.MapKept.run_getObj_map h1, Go.MapKept.run_checkKey hd (hK k), Go.MapKept.run_findKey hd q1, hz, hf, Result.andThen]
  · have hf : f k = some e.val := (h4 k e.val).2 ⟨e, List.mem_of_getElem? q2, q3, rfl⟩
    simp [Instr.lookup, run_underlying ht, Go.MapKept.run_getObj_map h1, Go.MapKept.run_checkKey hd (hK k), Go.MapKept.run_findKey hd q1, hf, Result.andThen]
/-- m[k] = v -/
theorem IMap.put [DecidableEq K] (h : IMap d enc w b f n) {t kt et : TypeId} (ht : P.underlying t = some (.map kt et)) (hd : P.underlying kt = some d) (hK : ∀ k, IsKey d (enc k)) (hinj : ∀ k k', enc k = enc k' → k = k') (k : K) (v : Value) :
    ∃ w', (Instr.mapUpdate t (.map (some b)) (enc k) v).run P w = .ok () w' ∧ IMap d enc w' b (fun k' => if k' = k then some v else f k') (if (f k).isSome then n else n + 1) ∧ w.grownBy w' (some b) ∧ w'.heap.size = w.heap.size := by
  obtain ⟨es, clock, h1, h2, h3, h4, h5⟩ := h
  have hks : ∀ x ∈ es.toList, IsKey d x.key := fun x hx => by obtain ⟨k, e⟩ := h3 x hx; rw [e]; exact hK k
  have hgr : ∀ o : Obj, w.grownBy { w with heap := w.heap.setIfInBounds b o } (some b) := fun o =>
    ⟨rfl, rfl, rfl, by simp, fun k' _ hne => (heap_set h1).2 k' (fun e => hne (by rw [e]))⟩
  rcases findNow_spec (hK k) es.toList 0 hks with ⟨q1, q2⟩ | ⟨j, e, q1, q2, q3⟩
  · have hf : f k = none := by
      cases hv : f k with
      | none => rfl
      | some v => obtain ⟨e, he, hk, -⟩ := (h4 k v).1 hv; exact absurd hk (q2 e he)
    refine ⟨{ w with heap := w.heap.setIfInBounds b (.map (es.push { key := enc k, val := v, born := clock }) (clock + 1)) }, ?_, ?_, hgr _, by simp⟩
    · simp [Instr.mapUpdate, run_underlying ht, Go.MapKept.run_getObj_map h1, Go.MapKept.run_checkKey hd (hK k), Go.MapKept.run_findKey hd q1, Go.MapKept.run_setObj_map _ h1, Result.andThen]
    · refine ⟨_, _, (heap_set h1).1, stamped_push h2 q2, ?_, fun k' v' => ?_, by simp [hf, h5]⟩
      · intro x hx
        simp only [Array.toList_push, List.mem_append, List.mem_singleton] at hx
        rcases hx with hx | rfl
        · exact h3 x hx
        · exact ⟨k, rfl⟩
      · simp only [Array.toList_push, List.mem_append, List.mem_singleton]
        by_cases c : k' = k
        · subst c
          rw [if_pos rfl]
          constructor
          · intro e; injection e with e; exact ⟨_, .inr rfl, rfl, e⟩
          · rintro ⟨e, he | rfl, g1, g2⟩
            · exact absurd g1 (q2 e he)
            · rw [← g2]
        · rw [if_neg c, h4]
          constructor
          · rintro ⟨e, he, g⟩; exact ⟨e, .inl he, g⟩
          · rintro ⟨e, he | rfl, g1, g2⟩
            · exact ⟨e, he, g1, g2⟩
            · exact absurd (hinj _ _ g1).symm c
  · have hf : f k = some e.val := (h4 k e.val).2 ⟨e, List.mem_of_getElem? q2, q3, rfl⟩
    have hj : es[j]? = some e := by simpa using q2
    have hjl : j < es.size := (Array.getElem?_eq_some_iff.1 hj).1
    refine ⟨{ w with heap := w.heap.setIfInBounds b (.map (es.modify j fun e => { e with key := enc k, val := v }) clock) }, ?_, ?_, hgr _, by simp⟩
    · simp [Instr.mapUpdate, run_underlying ht, Go.MapKept.run_getObj_map h1, Go.MapKept.run_checkKey hd (hK k), Go.MapKept.run_findKey hd q1, hj, q3, Go.MapKept.run_keyThatStays (hK k), Go.MapKept.run_setObj_map _ h1, Result.andThen]
    · have hkey : ∀ e', es[j]? = some e' → ({ e' with key := enc k, val := v } : MapEntry).key = e'.key := fun e' he' => by rw [hj] at he'; cases he'; exact q3.symm
      have hat : ∀ i, (es.modify j fun e => { e with key := enc k, val := v }).toList[i]? = if j = i then some { e with key := enc k, val := v } else es.toList[i]? := by
        intro i
        rw [Array.getElem?_toList, Array.getElem?_modify]
        by_cases c : j = i
        · subst c; rw [if_pos rfl, if_pos rfl, hj]; rfl
        · rw [if_neg c, if_neg c, Array.getElem?_toList]
      refine ⟨_, _, (heap_set h1).1, stamped_modify h2 _ _ (fun _ _ => rfl) (fun e' _ he' => hkey e' he'), ?_, fun k' v' => ?_, by simp [hf, h5]⟩
      · intro x hx
        obtain ⟨i, hi⟩ := List.getElem?_of_mem hx
        rw [hat] at hi
        split at hi
        · injection hi with hi; subst hi; exact ⟨k, rfl⟩
        · exact h3 x (List.mem_of_getElem? hi)
      · dsimp only
        by_cases c : k' = k
        · subst c
          rw [if_pos rfl]
          constructor
          · intro e1
            injection e1 with e1
            refine ⟨{ e with key := enc k', val := v }, List.mem_of_getElem? (i := j) (by rw [hat, if_pos rfl]), rfl, e1⟩
          · rintro ⟨e1, he, g1, g2⟩
            obtain ⟨i, hi⟩ := List.getElem?_of_mem he
            rw [hat] at hi
            split at hi
            · injection hi with hi; subst hi; rw [← g2]
            · rename_i hji
              have := nodup_keys h2 q2 hi (q3.trans g1.symm)
              exact absurd this hji
        · rw [if_neg c, h4]
          constructor
          · rintro ⟨e1, he, g1, g2⟩
            obtain ⟨i, hi⟩ := List.getElem?_of_mem he
            refine ⟨e1, List.mem_of_getElem? (i := i) ?_, g1, g2⟩
            rw [hat, if_neg (fun hji => ?_)]
            · exact hi
            · subst hji
              rw [q2] at hi
              injection hi with hi
              subst hi
              exact c (hinj _ _ (g1.symm.trans q3))
          · rintro ⟨e1, he, g1, g2⟩
            obtain ⟨i, hi⟩ := List.getElem?_of_mem he
            rw [hat] at hi
            split at hi
            · injection hi with hi; subst hi; exact absurd (hinj _ _ g1).symm c
            · exact ⟨e1, List.mem_of_getElem? hi, g1, g2⟩
/-- delete(m, k) -/
theorem IMap.del [DecidableEq K] (h : IMap d enc w b f n) {t kt et ty : TypeId} (ht : P.underlying t = some (.map kt et)) (hd : P.underlying kt = some d) (hK : ∀ k, IsKey d (enc k)) (hinj : ∀ k k', enc k = enc k' → k = k') (k : K) :
    ∃ w', (Builtin.delete_ #[t, kt] ty #[.map (some b), enc k]).run P w = .ok (.tuple #[]) w' ∧ IMap d enc w' b (fun k' => if k' = k then none else f k') (if (f k).isSome then n - 1 else n) ∧ w.grownBy w' (some b) ∧ w'.heap.size = w.heap.size := by
  obtain ⟨es, clock, h1, h2, h3, h4, h5⟩ := h
  have hks : ∀ x ∈ es.toList, IsKey d x.key := fun x hx => by obtain ⟨k, e⟩ := h3 x hx; rw [e]; exact hK k
  have hgr : ∀ o : Obj, w.grownBy { w with heap := w.heap.setIfInBounds b o } (some b) := fun o =>
    ⟨rfl, rfl, rfl, by simp, fun k' _ hne => (heap_set h1).2 k' (fun e => hne (by rw [e]))⟩
  rcases findNow_spec (hK k) es.toList 0 hks with ⟨q1, q2⟩ | ⟨j, e, q1, q2, q3⟩
  · have hf : f k = none := by
      cases hv : f k with
      | none => rfl
      | some v => obtain ⟨e, he, hk, -⟩ := (h4 k v).1 hv; exact absurd hk (q2 e he)
    refine ⟨{ w with heap := w.heap.setIfInBounds b (.map es clock) }, ?_, ⟨es, clock, (heap_set h1).1, h2, h3, fun k' v' => ?_, by simp [hf, h5]⟩, hgr _, by simp⟩
    · simp [Builtin.delete_, run_underlying ht, Go.MapKept.run_getObj_map h1, Go.MapKept.run_checkKey hd (hK k), Go.MapKept.run_findKey hd q1, Go.MapKept.run_setObj_map _ h1, Result.andThen]
    · dsimp only
      by_cases c : k' = k
      · subst c
        rw [if_pos rfl, ← h4, hf]
      · rw [if_neg c]; exact h4 k' v'
  · have hf : f k = some e.val := (h4 k e.val).2 ⟨e, List.mem_of_getElem? q2, q3, rfl⟩
    have hj : es[j]? = some e := by simpa using q2
    have hjl : j < es.size := (Array.getElem?_eq_some_iff.1 hj).1
    have hlist : (es.eraseIdxIfInBounds j).toList = es.toList.eraseIdx j := by
      unfold Array.eraseIdxIfInBounds
      rw [dif_pos hjl, Array.toList_eraseIdx]
    refine ⟨{ w with heap := w.heap.setIfInBounds b (.map (es.eraseIdxIfInBounds j) clock) }, ?_, ⟨_, _, (heap_set h1).1, stamped_erase h2 _, ?_, fun k' v' => ?_, ?_⟩, hgr _, by simp⟩
    · simp [Builtin.delete_, run_underlying ht, Go.MapKept.run_getObj_map h1, Go.MapKept.run_checkKey hd (hK k), Go.MapKept.run_findKey hd q1, Go.MapKept.run_setObj_map _ h1, Result.andThen]
    · intro x hx
      rw [hlist] at hx
      exact h3 x ((List.eraseIdx_sublist _ _).subset hx)
    · have hmem : ∀ x, x ∈ (es.eraseIdxIfInBounds j).toList ↔ x ∈ es.toList ∧ x.key ≠ enc k := by
        intro x
        rw [hlist, List.mem_eraseIdx_iff_getElem?]
        constructor
        · rintro ⟨i, hij, hi⟩
          refine ⟨List.mem_of_getElem? hi, fun hk => hij ?_⟩
          exact (nodup_keys h2 q2 hi (q3.trans hk.symm)).symm
        · rintro ⟨hx, hne⟩
          obtain ⟨i, hi⟩ := List.getElem?_of_mem hx
          refine ⟨i, fun hij => ?_, hi⟩
          subst hij
          rw [q2] at hi
          injection hi with hi
          subst hi
          exact hne q3
      dsimp only
      by_cases c : k' = k
      · subst c
        rw [if_pos rfl]
        constructor
        · intro e; cases e
        · rintro ⟨e1, he, g1, g2⟩; exact absurd g1 ((hmem e1).1 he).2
      · rw [if_neg c, h4]
        constructor
        · rintro ⟨e1, he, g1, g2⟩; exact ⟨e1, (hmem e1).2 ⟨he, fun g => c (hinj _ _ (g1.symm.trans g))⟩, g1, g2⟩
        · rintro ⟨e1, he, g1, g2⟩; exact ⟨e1, ((hmem e1).1 he).1, g1, g2⟩
    · rw [if_pos (by rw [hf]; rfl), ← Array.length_toList, hlist, List.length_eraseIdx, if_pos (by simpa using hjl), Array.length_toList, h5]
/-- len(m) -/
theorem IMap.len (h : IMap d enc w b f n) {t kt et ty : TypeId} (ht : P.underlying t = some (.map kt et)) : (Builtin.len_ #[t] ty #[.map (some b)]).run P w = .ok (goInt n) w := by
  obtain ⟨es, clock, h1, h2, h3, h4, rfl⟩ := h
  simp [Builtin.len_, run_underlying ht, Go.MapKept.run_getObj_map h1, Result.andThen]
end
theorem wp_look {K : Type} {d : TypeDesc} {enc : K → Value} {b n : Nat} {f : K → Option Value} {P : Program} (w : World) {ops : Array Oper} {rest : List Oper} {o : Oper} {a : Act} {Q : Exit → Act → World → Prop}
    (hg : o.guard = none) (m x : Operand) (t : TypeId) (c : Bool) (hop : o.op = Op.lookup t m x c) (kt et : TypeId) (ht : P.underlying t = some (.map kt et)) (hd : P.underlying kt = some d) (hK : ∀ k, IsKey d (enc k)) (z : Value) (hz : ∀ w, (zeroValue et).run P w = .ok z w)
    (hm : a.eval m = .map (some b)) (h : IMap d enc w b f n) (k : K) (hx : a.eval x = enc k) (hQ : wpList P ops Q rest (a.put o.dst (if c then .tuple #[(f k).getD z, .bool (f k).isSome] else (f k).getD z)) w) : wpList P ops Q (o :: rest) a w := by
  refine wpList_plain hg fun K' hK' => ?_
  have hrun := h.look ht hd hK (hz w) k c
  generalize (if c then Value.tuple #[(f k).getD z, .bool (f k).isSome] else (f k).getD z) = v at hrun hQ
  unfold Oper.wp
  simp [execOp, hop, hm, hx, hrun, Result.andThen]
  exact hK' _ _ hQ
theorem wp_mput {K : Type} [DecidableEq K] {d : TypeDesc} {enc : K → Value} {b n : Nat} {f : K → Option Value} {P : Program} (w : World) {ops : Array Oper} {rest : List Oper} {o : Oper} {a : Act} {Q : Exit → Act → World → Prop}
    (hg : o.guard = none) (m x v : Operand) (t : TypeId) (hop : o.op = Op.mapUpdate t m x v) (kt et : TypeId) (ht : P.underlying t = some (.map kt et)) (hd : P.underlying kt = some d) (hK : ∀ k, IsKey d (enc k)) (hinj : ∀ k k', enc k = enc k' → k = k')
    (hm : a.eval m = .map (some b)) (h : IMap d enc w b f n) (k : K) (hx : a.eval x = enc k) (val : Value) (hv : a.eval v = val)
    (hQ : ∀ w', IMap d enc w' b (fun k' => if k' = k then some val else f k') (if (f k).isSome then n else n + 1) → w.grownBy w' (some b) → w'.heap.size = w.heap.size → wpList P ops Q rest (a.put o.dst undef) w') : wpList P ops Q (o :: rest) a w := by
  refine wpList_plain hg fun K' hK' => ?_
  obtain ⟨w', hrun, r1, r2, r3⟩ := h.put ht hd hK hinj k val
  unfold Oper.wp
  simp [execOp, hop, hm, hx, hv, hrun, Result.andThen]
  exact hK' _ _ (hQ w' r1 r2 r3)
theorem wp_mdel {K : Type} [DecidableEq K] {d : TypeDesc} {enc : K → Value} {b n : Nat} {f : K → Option Value} {P : Program} (w : World) {ops : Array Oper} {rest : List Oper} {o : Oper} {a : Act} {Q : Exit → Act → World → Prop}
    (hg : o.guard = none) (m x : Operand) (t kt et : TypeId) (hop : o.op = .call { callee := .builtin .delete, args := #[m, x], argTypes := #[t, kt] }) (ht : P.underlying t = some (.map kt et)) (hd : P.underlying kt = some d) (hK : ∀ k, IsKey d (enc k)) (hinj : ∀ k k', enc k = enc k' → k = k')
    (hm : a.eval m = .map (some b)) (h : IMap d enc w b f n) (k : K) (hx : a.eval x = enc k)
    (hQ : ∀ w', IMap d enc w' b (fun k' => if k' = k then none else f k') (if (f k).isSome then n - 1 else n) → w.grownBy w' (some b) → w'.heap.size = w.heap.size → wpList P ops Q rest (a.put o.dst (.tuple #[])) w') : wpList P ops Q (o :: rest) a w := by
  refine wpList_plain hg fun K' hK' => ?_
  obtain ⟨w', hrun, r1, r2, r3⟩ := h.del (ty := o.type) ht hd hK hinj k
  unfold Oper.wp
  simp [execOp, hop, resolve, invoke, builtin, hm, hx, hrun, Result.andThen]
  exact hK' _ _ (hQ w' r1 r2 r3)
/-- integers as keys -/
abbrev ik (k : Int) : Value := .int .i64 k
theorem ik_key (k : Int) : IsKey (.int .i64) (ik k) := rfl
theorem ik_inj (k k' : Int) (h : ik k = ik k') : k = k' := by injection h
/-- texts as keys -/
abbrev sk (s : ByteArray) : Value := .string s
theorem sk_key (s : ByteArray) : IsKey .string (sk s) := trivial
theorem sk_inj (s s' : ByteArray) (h : sk s = sk s') : s = s' := by injection h

end Go.Proofs.Ytccjeclncmogiaa
