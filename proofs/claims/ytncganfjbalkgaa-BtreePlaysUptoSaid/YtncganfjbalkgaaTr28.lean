/-
  What the law of a cursor that goes through a tree asks: the script that came in, lists that come and go, the walk's state in memory.
  Conditions: none.
-/
import Derived.Test.YtncganfjbalkgaaTr27
namespace Go.Proofs.Ytncganfjbalkgaa
open Go.RowKit Go.Joins Go.ChangeShapes Go.WideShapes
set_option linter.unusedVariables false

theorem cells_op : Try.prog.cellsOf 34 = 3 := by kernel_rfl
/-- a list of calls in memory -/
structure OpsAt (w : World) (b off n : Nat) (kd id : Nat → Int) (kf : Nat → List Nat) (kv : Nat → Value) : Prop where
  lt : 0 < n → b < w.heap.size
  c0 : ∀ i, i < n → w.cell? ⟨b, off + i * 3, none⟩ = some (.int .i64 (kd i))
  c1 : ∀ i, i < n → w.cell? ⟨b, off + i * 3 + 1, none⟩ = some (kv i)
  c2 : ∀ i, i < n → w.cell? ⟨b, off + i * 3 + 2, none⟩ = some (.int .i64 (id i))
  key : ∀ i, i < n → KeyAt w (fun _ => True) (kv i) (kf i)
  len : ∀ i, i < n → (kf i).length ≤ 1048576
theorem OpsAt.below {w w1 : World} {b off n : Nat} {kd id : Nat → Int} {kf : Nat → List Nat} {kv : Nat → Value} (h : OpsAt w b off n kd id kf kv) (hb : Below w.heap.size w w1) : OpsAt w1 b off n kd id kf kv :=
  ⟨fun h0 => Nat.lt_of_lt_of_le (h.lt h0) hb.size, fun i hi => (hb.cell (h.lt (by omega))).trans (h.c0 i hi), fun i hi => (hb.cell (h.lt (by omega))).trans (h.c1 i hi), fun i hi => (hb.cell (h.lt (by omega))).trans (h.c2 i hi),
    fun i hi => (h.key i hi).step (Frm.of_below (F := fun _ => False) hb) (fun _ _ h => h), h.len⟩
set_option maxRecDepth 100000 in
theorem open_ops {H : Type} {enc : TypeId × Value → H} {W : World} {base b0 : Nat} {r : Reach} {v : Value} {d : DataW H} {p : List MemPlace}
    (o : Value.okWide Try.prog W r b0 22 v) (h : DataW.Trod enc Try.prog W base (fun _ => true) true 22 v d p) (hb : Rows.uptoBulk d ≤ 1048576) :
    ∃ (a : Option Addr) (n cap b off : Nat) (kd id : Nat → Int) (kf : Nat → List Nat) (kv : Nat → Value), v = .slice a n cap ∧ n ≤ 1048576 ∧ (n = 0 ∨ a = some ⟨b, off, none⟩) ∧ OpsAt W b off n kd id kf kv := by
  obtain ⟨a, len, cap, rfl⟩ := okWide_slice Try.underlying22 o
  obtain ⟨fuel, hf⟩ := h
  rcases Go.Deep.open_slice Try.underlying22 hf with ⟨hcs, hx⟩ | ⟨a', len', cap', m, n, D, Pl, hcs, hbb, hl, hm, hmm, hx, hi⟩
  · simp [Value.cells] at hcs
    obtain ⟨rfl, rfl, rfl⟩ := hcs
    exact ⟨none, 0, 0, 0, 0, fun _ => 0, fun _ => 0, fun _ => [], fun _ => .bool false, rfl, by decide, .inl rfl, ⟨fun h => absurd h (by decide), fun i hi => absurd hi (by omega), fun i hi => absurd hi (by omega), fun i hi => absurd hi (by omega), fun i hi => absurd hi (by omega), fun i hi => absurd hi (by omega)⟩⟩
  · simp [Value.cells] at hcs
    obtain ⟨rfl, rfl, rfl⟩ := hcs
    simp only [if_true] at hmm
    subst hmm
    simp only [Prod.mk.injEq] at hx
    obtain ⟨rfl, -⟩ := hx
    rw [cells_op] at hi
    have hbs : Rows.uptoBulkAll ((List.range len).map D) + Rows.uptoBulkAll ((List.range (m - len)).map fun j => D (len + j)) + 1 ≤ 1048576 := by
      unfold Rows.uptoBulk at hb
      exact hb
    have l1 := up_len ((List.range len).map D)
    rw [List.length_map, List.length_range] at l1
    have hk : ∀ i, ∃ x : Int × Int × List Nat × Value, i < len → W.cell? (a'.add (i * 3)) = some (.int .i64 x.1) ∧ W.cell? ((a'.add (i * 3)).add 1) = some x.2.2.2 ∧ W.cell? ((a'.add (i * 3)).add 2) = some (.int .i64 x.2.1) ∧ KeyAt W (fun _ => True) x.2.2.2 x.2.2.1 ∧ x.2.2.1.length ≤ 1048576 := by
      intro i
      by_cases hil : i < len
      · have hD : Rows.uptoBulk (D i) ≤ 1048576 := by
          have := up_mem (d := D i) (l := (List.range len).map D) (List.mem_map.2 ⟨i, List.mem_range.2 hil, rfl⟩)
          omega
        obtain ⟨cs', hc, ht⟩ := hi i (by omega)
        obtain ⟨y0, y1, y2, n', hy, hlen, g0, g1, g2⟩ := Go.Deep.trod_struct3 Try.underlying34 ht
        rw [cells_op] at hlen
        obtain ⟨_, hcl, hat⟩ := World.cells?_some hc
        match cs', hlen with
        | [q0, q1, q2], _ =>
          obtain ⟨k, e0, -, -⟩ := DataW.trod_int Try.underlying3 g0
          obtain ⟨z, e2, -, -⟩ := DataW.trod_int Try.underlying3 g2
          simp only [cells_int, cells_key] at e0 e2 g1
          have hd1 : Rows.uptoBulk y1.1 ≤ 1048576 := by
            have h1 := congrArg Prod.fst hy
            simp only at h1
            rw [h1] at hD
            simp only [Rows.uptoBulk, Rows.uptoBulkAll] at hD
            omega
          obtain ⟨a1, l, c1, b1, o1, e, h1, h2, h3, h4, -⟩ := inner_bytes g1 hd1
          simp at e0 e2 e
          subst e0 e2 e
          refine ⟨(k, z, l, _), fun _ => ⟨?_, hat 1 (by decide), hat 2 (by decide), ⟨a1, b1, o1, c1, rfl, h3.imp_right fun h => ⟨h, trivial⟩, h4⟩, by simp only; omega⟩⟩
          have := hat 0 (by decide)
          simpa [Addr.add] using this
      · exact ⟨(0, 0, [], .bool false), fun h => absurd h hil⟩
    obtain ⟨f, hf'⟩ := Classical.axiomOfChoice hk
    by_cases h0 : len = 0
    · subst h0
      exact ⟨_, 0, _, 0, 0, fun _ => 0, fun _ => 0, fun _ => [], fun _ => .bool false, rfl, by omega, .inl rfl, ⟨fun h => absurd h (by decide), fun i hi => absurd hi (by omega), fun i hi => absurd hi (by omega), fun i hi => absurd hi (by omega), fun i hi => absurd hi (by omega), fun i hi => absurd hi (by omega)⟩⟩
    · have hsp : a'.spot = none := by
        have c := (hf' 0 (by omega)).1
        simpa [Addr.add] using World.cell?_spot c
      obtain ⟨b, off, spot⟩ := a'
      simp only at hsp
      subst hsp
      have ea : ∀ j, (⟨b, off, none⟩ : Addr).add j = ⟨b, off + j, none⟩ := by intro j; unfold Addr.add; split <;> simp_all
      have hlt : b < W.heap.size := by
        have c := (hf' 0 (by omega)).1
        rw [ea] at c
        exact World.block_lt_of_cell? W _ c
      refine ⟨_, len, _, b, off, fun i => (f i).1, fun i => (f i).2.1, fun i => (f i).2.2.1, fun i => (f i).2.2.2, rfl, by omega, .inr rfl, ⟨fun _ => hlt, fun i hil => ?_, fun i hil => ?_, fun i hil => ?_, fun i hil => (hf' i hil).2.2.2.1, fun i hil => (hf' i hil).2.2.2.2⟩⟩
      · rw [← ea]
        exact (hf' i hil).1
      · have := (hf' i hil).2.1
        rw [Go.Deep.add_add, ea, ← Nat.add_assoc] at this
        exact this
      · have := (hf' i hil).2.2.1
        rw [Go.Deep.add_add, ea, ← Nat.add_assoc] at this
        exact this

end Go.Proofs.Ytncganfjbalkgaa

namespace Go.Proofs.Ytncganfjbalkgaa
open Go.RowKit Go.Joins Go.ChangeShapes Go.WideShapes
set_option linter.unusedVariables false

/-- ahead of a key with a nought behind is what isn't behind the key -/
theorem klt_snoc : ∀ (a k : List Nat), klt a (k ++ [0]) ↔ ¬ klt k a
  | [], [] => by simp [klt, ordB]
  | [], _ :: _ => by simp [klt, ordB]
  | a :: l, [] => by
    cases l <;> simp [klt, ordB]
    all_goals (try (split <;> decide))
  | a :: l, k :: r => by
    have ih := klt_snoc l r
    unfold klt at ih ⊢
    simp only [List.cons_append, ordB]
    by_cases h1 : a < k
    · simp [h1, show ¬ k < a by omega]
    · by_cases h2 : k < a
      · simp [h1, h2]
      · simp only [if_neg h1, if_neg h2]
        exact ih
/-- ahead of a key -/
abbrev kb (k : List Nat) (e : Ent) : Bool := decide (ordB e.1 k < 0)
theorem kb_iff (k : List Nat) (e : Ent) : kb k e = true ↔ klt e.1 k := by simp [kb, klt]
/-- ahead of where a cursor stands -/
def belw (st : Option (List Nat)) (e : Ent) : Bool := match st with | none => true | some k => kb k e
theorem srt_uniq {l : List Ent} (hs : Srt l) {e f : Ent} (he : e ∈ l) (hf : f ∈ l) (h : e.1 = f.1) : e = f := by
  obtain ⟨i, hi⟩ := List.getElem?_of_mem he
  obtain ⟨j, hj⟩ := List.getElem?_of_mem hf
  have h1 := ePl_found hs hi
  have h2 := ePl_found hs hj
  rw [h, h2] at h1
  injection h1 with h1
  rw [h1] at hj
  rw [hi] at hj
  injection hj
theorem srt_all {l : List Ent} {a : Ent} (hs : Srt (a :: l)) : (∀ e ∈ l, klt a.1 e.1) ∧ Srt l := List.pairwise_cons.1 hs
theorem filter_none {l : List Ent} {p : Ent → Bool} (h : ∀ e ∈ l, p e = false) : l.filter p = [] := List.filter_eq_nil_iff.2 (fun e he => by rw [h e he]; decide)
theorem filter_snoc (k : List Nat) : ∀ {l : List Ent}, Srt l → l.filter (kb (k ++ [0])) = l.filter (kb k) ++ l.filter (fun e => decide (e.1 = k))
  | [], _ => rfl
  | a :: l, hs => by
    obtain ⟨h1, h2⟩ := srt_all hs
    have ih := filter_snoc k h2
    rcases klt_or a.1 k with c | c | c
    · have e1 : kb k a = true := (kb_iff _ _).2 c
      have e2 : kb (k ++ [0]) a = true := (kb_iff _ _).2 ((klt_snoc _ _).2 (klt_asym c))
      have e3 : decide (a.1 = k) = false := by simp; intro e; rw [e] at c; exact klt_irr _ c
      rw [List.filter_cons, if_pos e2, List.filter_cons, if_pos e1, List.filter_cons, if_neg (by rw [e3]; decide), ih]
      rfl
    · have e1 : kb k a = false := by rw [Bool.eq_false_iff]; intro e; exact klt_irr _ (by rw [kb_iff, c] at e; exact e)
      have e2 : kb (k ++ [0]) a = true := (kb_iff _ _).2 ((klt_snoc _ _).2 (by rw [c]; exact klt_irr _))
      have e3 : decide (a.1 = k) = true := by simp [c]
      have r1 : l.filter (kb (k ++ [0])) = [] := filter_none fun e he => by
        rw [Bool.eq_false_iff]; intro g
        have := h1 e he
        rw [c] at this
        exact (klt_snoc _ _).1 ((kb_iff _ _).1 g) this
      have r2 : l.filter (kb k) = [] := filter_none fun e he => by
        rw [Bool.eq_false_iff]; intro g
        have := h1 e he
        rw [c] at this
        exact klt_asym this ((kb_iff _ _).1 g)
      have r3 : l.filter (fun e => decide (e.1 = k)) = [] := filter_none fun e he => by
        rw [Bool.eq_false_iff]; intro g
        have := h1 e he
        rw [c, of_decide_eq_true g] at this
        exact klt_irr _ this
      rw [List.filter_cons, if_pos e2, List.filter_cons, if_neg (by rw [e1]; decide), List.filter_cons, if_pos e3, r1, r2, r3]
      rfl
    · have big : ∀ e ∈ a :: l, klt k e.1 := by
        intro e he
        rcases List.mem_cons.1 he with rfl | he
        · exact c
        · exact klt_trans c (h1 e he)
      rw [filter_none (fun e he => by rw [Bool.eq_false_iff]; intro g; exact (klt_snoc _ _).1 ((kb_iff _ _).1 g) (big e he)),
        filter_none (fun e he => by rw [Bool.eq_false_iff]; intro g; exact klt_asym (big e he) ((kb_iff _ _).1 g)),
        filter_none (fun e he => by rw [Bool.eq_false_iff]; intro g; have := big e he; rw [of_decide_eq_true g] at this; exact klt_irr _ this)]
      rfl
theorem filter_key {l : List Ent} (hs : Srt l) {x : Ent} (hx : x ∈ l) : l.filter (fun e => decide (e.1 = x.1)) = [x] := by
  induction l with
  | nil => cases hx
  | cons a l ih =>
    obtain ⟨h1, h2⟩ := srt_all hs
    rcases List.mem_cons.1 hx with rfl | hx
    · rw [List.filter_cons, if_pos (by simp), filter_none (fun e he => by rw [Bool.eq_false_iff]; intro g; have := h1 e he; rw [of_decide_eq_true g] at this; exact klt_irr _ this)]
    · rw [List.filter_cons, if_neg (by simp; intro e; have := h1 x hx; rw [e] at this; exact klt_irr _ this)]
      exact ih h2 hx
theorem count_step {l : List Ent} (hs : Srt l) {x : Ent} (hx : x ∈ l) : (l.filter (fun e => !kb (x.1 ++ [0]) e)).length + 1 ≤ (l.filter (fun e => !kb x.1 e)).length := by
  induction l with
  | nil => cases hx
  | cons a l ih =>
    obtain ⟨h1, h2⟩ := srt_all hs
    rcases List.mem_cons.1 hx with rfl | hx
    · have e1 : (!kb x.1 x) = true := by simp only [Bool.not_eq_true']; rw [Bool.eq_false_iff]; intro g; exact klt_irr _ ((kb_iff _ _).1 g)
      have e2 : (!kb (x.1 ++ [0]) x) = false := by simp only [Bool.not_eq_false']; exact (kb_iff _ _).2 ((klt_snoc _ _).2 (klt_irr _))
      rw [List.filter_cons, if_neg (by rw [e2]; decide), List.filter_cons, if_pos e1, List.length_cons]
      have : l.filter (fun e => !kb (x.1 ++ [0]) e) = l.filter (fun e => !kb x.1 e) := List.filter_congr fun e he => by
        have q := h1 e he
        have g1 : kb x.1 e = false := by rw [Bool.eq_false_iff]; intro g; exact klt_asym q ((kb_iff _ _).1 g)
        have g2 : kb (x.1 ++ [0]) e = false := by rw [Bool.eq_false_iff]; intro g; exact (klt_snoc _ _).1 ((kb_iff _ _).1 g) q
        rw [g1, g2]
      rw [this]
      exact Nat.le_refl _
    · have q := h1 x hx
      have e1 : (!kb x.1 a) = false := by simp only [Bool.not_eq_false']; exact (kb_iff _ _).2 q
      have e2 : (!kb (x.1 ++ [0]) a) = false := by simp only [Bool.not_eq_false']; exact (kb_iff _ _).2 ((klt_snoc _ _).2 (klt_asym q))
      rw [List.filter_cons, if_neg (by rw [e2]; decide), List.filter_cons, if_neg (by rw [e1]; decide)]
      exact ih h2 hx
theorem seek_none {es : List Ent} {k : List Nat} (h : seekSt es k = none) : ∀ e ∈ es, klt e.1 k := by
  unfold seekSt at h
  exact (ePl_all (l := es) (k := k) (by simpa using h)).2
theorem seek_some {es : List Ent} {k k' : List Nat} (hs : Srt es) (h : seekSt es k = some k') : (∃ n, (k', n) ∈ es) ∧ ¬ klt k' k ∧ ∀ e ∈ es, klt e.1 k' → klt e.1 k := by
  unfold seekSt at h
  obtain ⟨x, hx, rfl⟩ : ∃ x, es[(ePl es k).1]? = some x ∧ x.1 = k' := by
    cases hx : es[(ePl es k).1]? with
    | none => rw [hx] at h; cases h
    | some x => rw [hx] at h; exact ⟨x, rfl, by simpa using h⟩
  refine ⟨⟨x.2, List.mem_of_getElem? hx⟩, ?_, fun e he g => ?_⟩
  · have := (ePlN_first k es 0).2.1 x (by simpa [ePl] using hx)
    exact this.1
  · obtain ⟨j, hj⟩ := List.getElem?_of_mem he
    rcases Nat.lt_or_ge j (ePl es k).1 with c | c
    · refine ePl_take (l := es) (k := k) e (List.mem_of_getElem? (i := j) ?_)
      rw [List.getElem?_take, if_pos c]
      exact hj
    · exfalso
      rcases Nat.eq_or_lt_of_le c with c | c
      · rw [← c, hx] at hj
        injection hj with hj
        rw [hj] at g
        exact klt_irr _ g
      · have hjl := List.getElem?_eq_some_iff.1 hj
        have hil := List.getElem?_eq_some_iff.1 hx
        have := List.pairwise_iff_getElem.1 hs _ _ hil.1 hjl.1 c
        rw [hil.2, hjl.2] at this
        exact klt_asym this g

/-- what stays, what is there, what was met, where the cursor stands -/
structure Wl (fx es mt : List Ent) (st : Option (List Nat)) (N : Nat) : Prop where
  sf : Srt fx
  se : Srt es
  fe : ∀ e ∈ fx, e ∈ es
  ef : ∀ e ∈ es, 0 < e.2 → e ∈ fx
  fp : ∀ e ∈ fx, 0 < e.2
  at_ : ∀ k, st = some k → ∃ n, (k, n) ∈ es
  mlt : ∀ k, st = some k → ∀ e ∈ mt, klt e.1 k
  filt : mt.filter (fun e => decide (0 < e.2)) = fx.filter (belw st)
  cnt : mt.length + (es.filter (fun e => !belw st e)).length ≤ N
theorem Wl.start {fx : List Ent} (hs : Srt fx) (hp : ∀ e ∈ fx, 0 < e.2) : Wl fx fx [] (seekSt fx []) fx.length := by
  refine ⟨hs, hs, fun e h => h, fun e h _ => h, hp, fun k h => (seek_some hs h).1, fun k _ e he => by simp at he, ?_, ?_⟩
  · show [] = _
    refine (filter_none fun e he => ?_).symm
    cases h : seekSt fx [] with
    | none => exact absurd (seek_none h e he) (nklt_nil _)
    | some k =>
      show kb k e = false
      rw [Bool.eq_false_iff]
      intro g
      exact nklt_nil _ ((seek_some hs h).2.2 e he ((kb_iff _ _).1 g))
  · have := List.length_filter_le (fun e => !belw (seekSt fx []) e) fx
    simp only [List.length_nil]
    omega
theorem Wl.rest {fx es es' mt : List Ent} {N : Nat} (h : Wl fx es mt none N) (hs : Srt es') (hf : ∀ e ∈ fx, e ∈ es') (he : ∀ e ∈ es', 0 < e.2 → e ∈ fx) : Wl fx es' mt none N := by
  refine ⟨h.sf, hs, hf, he, h.fp, (fun k e => by cases e), (fun k e => by cases e), h.filt, ?_⟩
  have := h.cnt
  rw [filter_none (fun e _ => by simp [belw])]
  simp only [List.length_nil]
  omega
theorem Wl.next {fx es es' mt : List Ent} {k : List Nat} {n : Int} {N d : Nat} (h : Wl fx es mt (some k) N) (hk : (k, n) ∈ es) (hs : Srt es') (hf : ∀ e ∈ fx, e ∈ es') (he : ∀ e ∈ es', 0 < e.2 → e ∈ fx)
    (hc : (es'.filter (fun e => !kb (k ++ [0]) e)).length ≤ (es.filter (fun e => !kb (k ++ [0]) e)).length + d) : Wl fx es' (mt ++ [(k, n)]) (seekSt es' (k ++ [0])) (N + d) := by
  have hb : ∀ e ∈ es', belw (seekSt es' (k ++ [0])) e = kb (k ++ [0]) e := by
    intro e hm
    cases hst : seekSt es' (k ++ [0]) with
    | none => exact ((kb_iff _ _).2 (seek_none hst e hm)).symm
    | some k' =>
      obtain ⟨-, q1, q2⟩ := seek_some hs hst
      show kb k' e = kb (k ++ [0]) e
      rw [Bool.eq_iff_iff, kb_iff, kb_iff]
      refine ⟨q2 e hm, fun g => ?_⟩
      rw [klt_snoc] at g q1
      exact klt_of_not g (Classical.not_not.1 q1)
  refine ⟨h.sf, hs, hf, he, h.fp, fun k' e => (seek_some hs e).1, fun k' e x hx => ?_, ?_, ?_⟩
  · obtain ⟨-, q1, -⟩ := seek_some hs e
    rw [klt_snoc, Classical.not_not] at q1
    rcases List.mem_append.1 hx with hx | hx
    · exact klt_trans (h.mlt k rfl x hx) q1
    · simp only [List.mem_singleton] at hx
      subst hx
      exact q1
  · rw [List.filter_append, h.filt, List.filter_congr (fun e hm => hb e (hf e hm)), filter_snoc k h.sf]
    congr 1
    by_cases c : 0 < n
    · rw [List.filter_cons, if_pos (by simpa using c)]
      exact (filter_key h.sf (h.ef _ hk c)).symm
    · rw [List.filter_cons, if_neg (by simpa using c)]
      refine (filter_none fun e hm => ?_).symm
      rw [Bool.eq_false_iff]
      intro g
      have := srt_uniq h.se (h.fe e hm) hk (of_decide_eq_true g)
      subst this
      exact c (h.fp _ hm)
  · have c1 : es'.filter (fun e => !belw (seekSt es' (k ++ [0])) e) = es'.filter (fun e => !kb (k ++ [0]) e) := List.filter_congr fun e hm => by rw [hb e hm]
    rw [c1, List.length_append]
    have c2 := count_step h.se hk
    have c3 := h.cnt
    change mt.length + (es.filter (fun e => !kb k e)).length ≤ N at c3
    simp only [List.length_cons, List.length_nil] at c2 ⊢
    omega
/-- an entry that comes -/
theorem came {l : List Ent} {k : List Nat} {id : Int} (p : Ent → Bool) : (∀ e ∈ l, e ∈ ePut l k id) ∧ ((ePut l k id).filter p).length ≤ (l.filter p).length + 1 := by
  cases hb : (ePl l k).2 with
  | true =>
    have : ePut l k id = l := by unfold ePut; rw [if_pos hb]
    rw [this]
    exact ⟨fun e h => h, by omega⟩
  | false =>
    refine ⟨(ePut_has hb).2, ?_⟩
    unfold ePut
    rw [if_neg (by rw [hb]; decide)]
    have : (l.filter p).length = ((l.take (ePl l k).1).filter p).length + ((l.drop (ePl l k).1).filter p).length := by rw [← List.length_append, ← List.filter_append, List.take_append_drop]
    rw [List.filter_append, List.filter_append, List.length_append, List.length_append]
    have h1 := List.length_filter_le p [(k, id)]
    simp only [List.length_cons, List.length_nil] at h1
    omega
/-- an entry that goes -/
theorem went {l : List Ent} {k : List Nat} (p : Ent → Bool) : (∀ e ∈ l, e.1 ≠ k → e ∈ eDel l k) ∧ ((eDel l k).filter p).length ≤ (l.filter p).length := by
  cases hb : (ePl l k).2 with
  | false =>
    have : eDel l k = l := by unfold eDel; rw [if_neg (by rw [hb]; decide)]
    rw [this]
    exact ⟨fun e h _ => h, Nat.le_refl _⟩
  | true =>
    obtain ⟨n, hn⟩ := ePl_key hb
    unfold eDel
    rw [if_pos hb]
    generalize (ePl l k).1 = i at *
    have hi := (List.getElem?_eq_some_iff.1 hn).1
    have hd : l.drop i = (k, n) :: l.drop (i + 1) := by rw [List.drop_eq_getElem_cons hi]; rw [(List.getElem?_eq_some_iff.1 hn).2]
    have hl : l = l.take i ++ ((k, n) :: l.drop (i + 1)) := by rw [← hd, List.take_append_drop]
    constructor
    · intro e he hne
      rw [hl] at he
      rcases List.mem_append.1 he with q | q
      · exact List.mem_append_left _ q
      · rcases List.mem_cons.1 q with rfl | q
        · exact absurd rfl hne
        · exact List.mem_append_right _ q
    · conv => rhs; rw [hl]
      rw [List.filter_append, List.filter_append, List.length_append, List.length_append]
      have : ((l.drop (i + 1)).filter p).length ≤ (((k, n) :: l.drop (i + 1)).filter p).length := by
        rw [List.filter_cons]
        split
        · simp
        · exact Nat.le_refl _
      omega
theorem not_there {fx : List Ent} {k : List Nat} (hs : Srt fx) (h : (ePl fx k).2 = false) : ∀ e ∈ fx, e.1 ≠ k := by
  rintro e he rfl
  obtain ⟨i, hi⟩ := List.getElem?_of_mem he
  rw [ePl_found hs hi] at h
  cases h
/-- what comes and goes in a round: an entry without a number above nought comes, or one goes that isn't of those that stay -/
inductive Turn (fx es : List Ent) : List Ent → Nat → Prop
  | put (k : List Nat) : Turn fx es (ePut es k (-1)) 1
  | drop (k : List Nat) (h : (ePl fx k).2 = false) : Turn fx es (eDel es k) 1
  | none (d : Nat) : Turn fx es es d
theorem Turn.ok {fx es es' mt : List Ent} {st : Option (List Nat)} {N d : Nat} (t : Turn fx es es' d) (h : Wl fx es mt st N) : Srt es' ∧ (∀ e ∈ fx, e ∈ es') ∧ (∀ e ∈ es', 0 < e.2 → e ∈ fx) ∧ ∀ p : Ent → Bool, (es'.filter p).length ≤ (es.filter p).length + d := by
  cases t with
  | put k =>
    refine ⟨ePut_srt h.se, fun e he => (came (fun _ => true)).1 e (h.fe e he), fun e he hp => ?_, fun p => (came p).2⟩
    rcases ePut_mem he with q | rfl
    · exact h.ef e q hp
    · exact absurd (show (0 : Int) < -1 from hp) (by decide)
  | drop k hk =>
    exact ⟨eDel_srt h.se, fun e he => (went (fun _ => true)).1 e (h.fe e he) (not_there h.sf hk e he), fun e he hp => h.ef e (eDel_mem he) hp, fun p => Nat.le_succ_of_le (went p).2⟩
  | none d => exact ⟨h.se, h.fe, h.ef, fun p => Nat.le_add_right _ _⟩
theorem Turn.len {fx es es' : List Ent} {d : Nat} (t : Turn fx es es' d) : es'.length ≤ es.length + d := by
  cases t with
  | put k => exact ePut_le _ _ _
  | drop k hk =>
    have := (went (l := es) (k := k) (fun _ => true)).2
    have hft : ∀ l : List Ent, l.filter (fun _ => true) = l := fun l => List.filter_eq_self.2 (fun _ _ => rfl)
    rw [hft, hft] at this
    omega
  | none d => exact Nat.le_add_right _ _
/-- the found ones, one after the other -/
theorem found_at {p : Ent → Bool} : ∀ {l : List Ent} {i : Nat} {x : Ent}, l[i]? = some x → p x = true → (l.filter p)[((l.take i).filter p).length]? = some x
  | [], i, x, h, _ => by simp at h
  | a :: l, 0, x, h, hp => by
    simp only [List.getElem?_cons_zero, Option.some.injEq] at h
    subst h
    rw [List.filter_cons_of_pos hp]
    simp
  | a :: l, i + 1, x, h, hp => by
    rw [List.getElem?_cons_succ] at h
    have ih := found_at h hp
    rw [List.take_succ_cons]
    cases ha : p a with
    | true =>
      rw [List.filter_cons_of_pos ha, List.filter_cons_of_pos ha, List.length_cons, List.getElem?_cons_succ]
      exact ih
    | false =>
      rw [List.filter_cons_of_neg (by rw [ha]; decide), List.filter_cons_of_neg (by rw [ha]; decide)]
      exact ih
theorem found_next {p : Ent → Bool} {l : List Ent} {i : Nat} {x : Ent} (h : l[i]? = some x) : ((l.take (i + 1)).filter p).length = ((l.take i).filter p).length + (if p x = true then 1 else 0) := by
  rw [List.take_add_one, h, List.filter_append, List.length_append]
  show _ + ([x].filter p).length = _
  congr 1
  by_cases c : p x = true
  · rw [if_pos c, List.filter_cons_of_pos c]; rfl
  · rw [if_neg c, List.filter_cons_of_neg c]; rfl

end Go.Proofs.Ytncganfjbalkgaa

namespace Go.Proofs.Ytncganfjbalkgaa
open Go.RowKit Go.Joins Go.ChangeShapes Go.WideShapes
set_option linter.unusedVariables false
set_option linter.unusedSimpArgs false

/-- append onto an own list of entries: where it lay, or in new memory -/
theorem run_append_e (w : World) (B : Nat) (v : Value) (l : List Ev) (hown : OwE w B v l) (hB : B ≤ w.heap.size) (ad : Addr) (c : Nat) (r : Ev)
    (hnews : ∀ j u, (ecells [r])[j]? = some u → w.cell? (ad.add j) = some u) (h1 : r.1.oneCell' = true) (hsz : l.length + 1 ≤ 4294967297) (ty : TypeId) :
    ∃ v' w', (Builtin.append_ #[26, 26] ty #[v, .slice (some ad) 1 c]).run Try.prog w = .ok v' w' ∧ OwE w' B v' (l ++ [r]) ∧ w.grownBy w' v.ownBlock ∧ NewB w v v' := by
  obtain ⟨i0, hi, hz0, hz1, hz2⟩ := info_parts infoE
  have hml : l.length + 1 ≤ maxLen := by unfold maxLen; omega
  have hone : ∀ u ∈ ecells [r], u.oneCell' = true := by
    intro u hu
    simp only [ecells, List.append_nil, List.mem_cons, List.not_mem_nil, or_false] at hu
    rcases hu with rfl | rfl
    · exact h1
    · rfl
  have hl : (ecells [r]).length = 1 * 2 := rfl
  obtain ⟨v', w', hr, g1, h2, h3⟩ := run_append_own (P := Try.prog) w B 26 ty 42 i0 _ 2 32 Try.underlying26 hi hz0 hz1 hz2 rfl (by decide) v l.length (ecells l) hown.1 ad 1 c (ecells [r]) hl hnews hone hml (by omega) hB
  refine ⟨v', w', hr, ⟨?_, fun e => hown.2 (h3.1 e).1⟩, h2, ?_⟩
  · rw [ecells_app, List.length_append, List.length_singleton]
    exact g1
  · intro k hk
    rcases hown.1.2 with ⟨e, _⟩ | ⟨g, cap, cur, rfl, hb, hg, hn, hc, hs, ht⟩
    · exact absurd e hown.2
    · by_cases hroom : l.length + 1 ≤ cap
      · have hr2 := run_append_room_cells (P := Try.prog) w 26 ty 42 i0 Try.underlying26 hi g 0 l.length cap ad 1 c (ecells [r]) (by rw [hz1]; exact hl) hnews hone hroom
          (fun j hj => by rw [cell_of_block hg, hz1]; rw [Array.getElem?_eq_getElem (by rw [hl] at hj; omega)]; rfl) (fun j hj => unfrozen_of_block hg _)
        rw [hr] at hr2
        injection hr2 with e1 e2
        subst e1
        exact .inl hk
      · have hfrom : ∀ j u, (ecells l)[j]? = some u → w.cell? ((⟨g, 0, none⟩ : Addr).add j) = some u := by
          intro j u hj
          have ea : (⟨g, 0, none⟩ : Addr).add j = ⟨g, j, none⟩ := by unfold Addr.add; split <;> simp_all
          rw [ea, cell_of_block hg j]
          rw [← ht, List.getElem?_take] at hj
          split at hj
          · rw [← Array.getElem?_toList]; exact hj
          · cases hj
        obtain ⟨v2, w2, hr2, k1, -⟩ := run_append_arg_grows (P := Try.prog) w 26 ty 42 i0 _ 2 32 Try.underlying26 hi hz0 hz1 hz2 rfl (by decide) ⟨g, 0, none⟩ l.length cap (ecells l) (ecells_length l)
          hfrom ad 1 c (ecells [r]) hl hnews (by omega) hml (by omega)
        rw [hr] at hr2
        injection hr2 with e1 e2
        subst e1 e2
        exact .inr (k1.lt k hk).1
theorem wp_pushE2 {ops : Array Oper} {rest : List Oper} {o : Oper} {a : Act} {w : World} {Q : Exit → Act → World → Prop} (hgd : o.guard = none) (s x : Operand)
    (ho : o.op = .call { callee := .builtin .append, args := #[s, x], argTypes := #[26, 26] })
    (B : Nat) (v : Value) (l : List Ev) (hs : a.eval s = v) (hown : OwE w B v l) (hB : B ≤ w.heap.size) (ad : Addr) (c : Nat) (r : Ev) (hx : a.eval x = .slice (some ad) 1 c)
    (hnews : ∀ j u, (ecells [r])[j]? = some u → w.cell? (ad.add j) = some u) (h1 : r.1.oneCell' = true) (hsz : l.length + 1 ≤ 4294967297)
    (h : ∀ v' w', OwE w' B v' (l ++ [r]) → w.grownBy w' v.ownBlock → NewB w v v' → wpList Try.prog ops Q rest (a.put o.dst v') w') : wpList Try.prog ops Q (o :: rest) a w := by
  refine wpList_plain hgd fun K hK => ?_
  obtain ⟨v', w', hr, g1, g2, g3⟩ := run_append_e w B v l hown hB ad c r hnews h1 hsz o.type
  unfold Oper.wp
  simp [execOp, ho, resolve, invoke, builtin, hs, hx, hr, Result.andThen]
  exact hK _ _ (h v' w' g1 g2 g3)
theorem step_pushE2 {ops : Array Oper} {o : Oper} {a : Act} {w : World} {K : Act → World → Prop} {Q : Exit → Act → World → Prop} {E : Prop} (hgd : o.guard = none) (s x : Operand)
    (ho : o.op = .call { callee := .builtin .append, args := #[s, x], argTypes := #[26, 26] })
    (B : Nat) (v : Value) (l : List Ev) (hs : a.eval s = v) (hown : OwE w B v l) (hB : B ≤ w.heap.size) (ad : Addr) (c : Nat) (r : Ev) (hx : a.eval x = .slice (some ad) 1 c)
    (hnews : ∀ j u, (ecells [r])[j]? = some u → w.cell? (ad.add j) = some u) (h1 : r.1.oneCell' = true) (hsz : l.length + 1 ≤ 4294967297)
    (h : ∀ v' w', OwE w' B v' (l ++ [r]) → w.grownBy w' v.ownBlock → NewB w v v' → K (a.put o.dst v') w') : if Region.wanted o (yielded ops a.tmps) = true then Oper.wp Try.prog o a w K Q else E := by
  have hw : Region.wanted o (yielded ops a.tmps) = true := by simp [Region.wanted, hgd]
  rw [if_pos hw]
  obtain ⟨v', w', hr, g1, g2, g3⟩ := run_append_e w B v l hown hB ad c r hnews h1 hsz o.type
  unfold Oper.wp
  simp [execOp, ho, resolve, invoke, builtin, hs, hx, hr, Result.andThen]
  exact h v' w' g1 g2 g3

/-- the tree's calls turn none of the blocks of K -/
theorem tc_frm' {W w w' : World} {t : Nat} {es es' : List Ent} {K F F' : Bl} (h2 : ∀ k, K k → ¬ F k ∧ k < w.heap.size) (h3 : Below W.heap.size W w) (h1 : TrX W.heap.size w F t es) (hf : Frm F w w') (hn : New w F F') (ht : TrX W.heap.size w' F' t es') : Tc W w' t es' K ∧ Frm (fun k => ¬ K k) w w' :=
  ⟨(tc_frm h2 h3 h1 hf hn ht).1, hf.mono fun k hk hK => (h2 k hK).1 hk⟩
theorem tk_put {W w : World} {t : Nat} {es : List Ent} {K : Bl} (h : Tc W w t es K) (hn : es.length ≤ 134217728) {R : Bl} {u : Value} {k : List Nat} (hu : KeyAt w R u k) (id : Int) :
    Calls Try.prog 12 #[.pointer (some ⟨t, 0, none⟩), u, .int .i64 id] w fun e w' => e = .returned (.bool (!(ePl es k).2)) ∧ Tc W w' t (ePut es k id) K ∧ Frm (fun k => ¬ K k) w w' := by
  obtain ⟨F, h1, h2, h3⟩ := h
  refine (tput_any _ w F t es h1 (by omega) R u k hu id).mono ?_
  rintro e w' ⟨rfl, F', hf, hnw, ht⟩
  exact ⟨rfl, tc_frm' h2 h3 h1 hf hnw ht⟩
theorem tk_drop {W w : World} {t : Nat} {es : List Ent} {K : Bl} (h : Tc W w t es K) (hn : es.length ≤ 134217728) {R : Bl} {u : Value} {k : List Nat} (hu : KeyAt w R u k) :
    Calls Try.prog 14 #[.pointer (some ⟨t, 0, none⟩), u] w fun e w' => e = .returned (.bool (ePl es k).2) ∧ Tc W w' t (eDel es k) K ∧ Frm (fun k => ¬ K k) w w' := by
  obtain ⟨F, h1, h2, h3⟩ := h
  refine (tdrop_any _ w F t es h1 (by omega) R u k hu).mono ?_
  rintro e w' ⟨rfl, F', hf, hnw, ht⟩
  exact ⟨rfl, tc_frm' h2 h3 h1 hf hnw ht⟩

/-- the tree, and a list of entries of the law's own beside it -/
def BS (W w : World) (t : Nat) (es : List Ent) (fv : Value) (fx : List Ent) : Prop := ∃ R L, Tc W w t es R ∧ MEx W.heap.size w R fv L fx
theorem BS.below {W w w1 : World} {t : Nat} {es fx : List Ent} {fv : Value} (h : BS W w t es fv fx) (hb : Below w.heap.size w w1) : BS W w1 t es fv fx := by
  obtain ⟨R, L, h1, h2⟩ := h
  exact ⟨R, L, h1.below hb, h2.below hb⟩
theorem BS.bel {W w : World} {t : Nat} {es fx : List Ent} {fv : Value} (h : BS W w t es fv fx) : Below W.heap.size W w := by
  obtain ⟨R, L, h1, h2⟩ := h
  exact h1.bel
theorem bs_put {W w : World} {t : Nat} {es fx : List Ent} {fv : Value} (h : BS W w t es fv fx) (hn : es.length ≤ 134217728) {R : Bl} {u : Value} {k : List Nat} (hu : KeyAt w R u k) (id : Int) :
    Calls Try.prog 12 #[.pointer (some ⟨t, 0, none⟩), u, .int .i64 id] w fun e w' => e = .returned (.bool (!(ePl es k).2)) ∧ BS W w' t (ePut es k id) fv fx := by
  obtain ⟨R, L, h1, h2⟩ := h
  refine (tk_put h1 hn hu id).mono ?_
  rintro e w' ⟨rfl, h3, h4⟩
  exact ⟨rfl, R, L, h3, h2.step h4 (fun k hk h => h hk)⟩
theorem bs_fix {W w : World} {t : Nat} {es fx : List Ent} {fv : Value} (h : BS W w t es fv fx) (hn : fx.length ≤ 4294967296) (hk9 : ∀ e ∈ fx, e.1.length ≤ maxLen) {R : Bl} {u : Value} {k : List Nat} (hu : KeyAt w R u k) (hm : k.length ≤ 17592186044416) (id : Int) :
    Calls Try.prog 13 #[fv, u, .int .i64 id] w fun e w' => ∃ v' b, e = .returned (.tuple #[v', .bool b]) ∧ BS W w' t es v' (ePut fx k id) := by
  obtain ⟨R1, L, h1, h2⟩ := h
  obtain ⟨a, b, off, cap, rfl, h3, h4⟩ := hu
  refine (refput_any W.heap.size w h1.bel.size R1 fv L fx h2 hn hk9 a b off cap k hm (h3.imp_right fun h => h.1) h4 id).mono ?_
  rintro e w' ⟨v', R', L', rfl, q1, q2, q3⟩
  refine ⟨v', _, rfl, R', L', h1.more q1 (fun k hk => ?_), q2⟩
  rcases q3 k hk with q | q
  · exact .inl q
  · exact .inr ⟨q, (q2.rb k hk).2⟩
theorem bs_place {W w : World} {t : Nat} {es fx : List Ent} {fv : Value} (h : BS W w t es fv fx) (hn : fx.length ≤ maxLen) (hk9 : ∀ e ∈ fx, e.1.length ≤ maxLen) {R : Bl} {u : Value} {k : List Nat} (hu : KeyAt w R u k) (hm : k.length ≤ maxLen) :
    Calls Try.prog 17 #[fv, u] w fun e w' => e = .returned (.tuple #[.int .i64 (((ePl fx k).1 : Nat) : Int), .bool (ePl fx k).2]) ∧ Below w.heap.size w w' := by
  obtain ⟨R1, L, h1, h2⟩ := h
  obtain ⟨a, b, off, cap, rfl, h3, h4⟩ := hu
  exact refplace_any W.heap.size w R1 fv L fx h2 hn hk9 a b off cap k hm (h3.imp_right fun h => h.1) h4

/-- all that the walk has: R is what is only read, K all of it -/
structure WkR (W w : World) (R K : Bl) (t c be : Nat) (es : List Ent) (st sk : Option (List Nat)) (fv : Value) (fL : List Ev) (fx : List Ent) (mv : Value) (mL : List Ev) (mt : List Ent) (ev : Value) (id : Int) (lv : Value) (lk : List Nat) : Prop where
  tree : Tc W w t es K
  rk : ∀ k, R k → K k
  rl : ∀ k, R k → W.heap.size ≤ k ∧ k < w.heap.size
  fixed : MEx W.heap.size w R fv fL fx
  cur : CurAt w c t st
  kc : K c ∧ ¬ R c ∧ W.heap.size ≤ c
  box : w.heap[be]? = some (.cells #[ev, .int .i64 id] 42 (0, 0))
  kb : K be ∧ ¬ R be ∧ W.heap.size ≤ be ∧ be ≠ c
  mo : OwE w W.heap.size mv mL
  me : EntsAt w R mL mt
  km : ∀ k, mv.ownBlock = some k → K k ∧ ¬ R k ∧ k ≠ c ∧ k ≠ be
  ek : ∀ k, sk = some k → KeyAt w R ev k
  lk : mt ≠ [] → KeyAt w R lv lk
variable {W w w1 : World} {R K F : Bl} {t c be : Nat} {es : List Ent} {st sk : Option (List Nat)} {fv : Value} {fL : List Ev} {fx : List Ent} {mv : Value} {mL : List Ev} {mt : List Ent} {ev : Value} {id : Int} {lv : Value} {lk : List Nat}
/-- everything but the tree, where blocks of none of it were written -/
theorem WkR.frm {es' : List Ent} (h : WkR W w R K t c be es st sk fv fL fx mv mL mt ev id lv lk) (ht : Tc W w1 t es' K) (hf : Frm (fun k => ¬ K k) w w1) : WkR W w1 R K t c be es' st sk fv fL fx mv mL mt ev id lv lk := by
  have hr : ∀ k, R k → ¬ ¬ K k := fun k hk g => g (h.rk k hk)
  exact ⟨ht, h.rk, fun k hk => ⟨(h.rl k hk).1, Nat.lt_of_lt_of_le (h.rl k hk).2 hf.size⟩, h.fixed.step hf hr, h.cur.step hf (fun g => g h.kc.1), h.kc,
    (hf.heap (Array.getElem?_eq_some_iff.1 h.box).1 (fun g => g h.kb.1)).trans h.box, h.kb, hf.owE h.mo (fun k hk g => g (h.km k hk).1), h.me.step hf hr, h.km, fun k hk => (h.ek k hk).step hf hr, fun hm => (h.lk hm).step hf hr⟩
theorem WkR.below (h : WkR W w R K t c be es st sk fv fL fx mv mL mt ev id lv lk) (hb : Below w.heap.size w w1) : WkR W w1 R K t c be es st sk fv fL fx mv mL mt ev id lv lk :=
  h.frm (h.tree.below hb) (Frm.of_below hb)
/-- new memory is only read from now on -/
theorem WkR.more (h : WkR W w R K t c be es st sk fv fL fx mv mL mt ev id lv lk) (hb : Below w.heap.size w w1) :
    WkR W w1 (fun k => R k ∨ (w.heap.size ≤ k ∧ k < w1.heap.size)) (fun k => K k ∨ (w.heap.size ≤ k ∧ k < w1.heap.size)) t c be es st sk fv fL fx mv mL mt ev id lv lk := by
  have h1 := h.below hb
  have hc : c < w.heap.size := h.cur.lt
  have hbe : be < w.heap.size := (Array.getElem?_eq_some_iff.1 h.box).1
  refine ⟨h.tree.more hb (fun k hk => hk), fun k hk => hk.imp (h.rk k) (fun g => g), fun k hk => ?_, ⟨h1.mo.1 |> fun _ => h1.fixed.own, h1.fixed.ents.mono (fun _ g => .inl g), fun k hk => .inl (h1.fixed.rv k hk), fun k hk => ?_⟩, h1.cur,
    ⟨.inl h.kc.1, fun g => ?_, h.kc.2.2⟩, h1.box, ⟨.inl h.kb.1, fun g => ?_, h.kb.2.2⟩, h1.mo, h1.me.mono (fun _ g => .inl g), fun k hk => ⟨.inl (h.km k hk).1, fun g => ?_, (h.km k hk).2.2⟩, fun k hk => (h1.ek k hk).mono (fun _ g => .inl g), fun hm => (h1.lk hm).mono (fun _ g => .inl g)⟩
  · rcases hk with g | g
    · exact h1.rl k g
    · exact ⟨Nat.le_trans h.tree.bel.size g.1, g.2⟩
  · rcases hk with g | g
    · exact h1.rl k g
    · exact ⟨Nat.le_trans h.tree.bel.size g.1, g.2⟩
  · rcases g with g | g
    · exact h.kc.2.1 g
    · omega
  · rcases g with g | g
    · exact h.kb.2.1 g
    · omega
  · rcases g with g | g
    · exact (h.km k hk).2.1 g
    · have := (h.mo.1.lt k hk).2; omega
/-- the box of the entry is written -/
theorem WkR.boxed {sk' : Option (List Nat)} {ev' : Value} {id' : Int} (h : WkR W w R K t c be es st sk fv fL fx mv mL mt ev id lv lk) (hek : ∀ k, sk' = some k → KeyAt w R ev' k) (hbx : w1.heap[be]? = some (.cells #[ev', .int .i64 id'] 42 (0, 0))) (hf : Frm (fun k => k = be) w w1) :
    WkR W w1 R K t c be es st sk' fv fL fx mv mL mt ev' id' lv lk := by
  have hr : ∀ k, R k → ¬ k = be := fun k hk g => h.kb.2.1 (g ▸ hk)
  exact ⟨h.tree.write hf (fun k hk => by subst hk; exact ⟨h.kb.1, h.kb.2.2.1⟩), h.rk, fun k hk => ⟨(h.rl k hk).1, Nat.lt_of_lt_of_le (h.rl k hk).2 hf.size⟩, h.fixed.step hf hr, h.cur.step hf (fun g => h.kb.2.2.2 g.symm), h.kc,
    hbx, h.kb, hf.owE h.mo (fun k hk g => (h.km k hk).2.2.2 g), h.me.step hf hr, h.km, fun k hk => (hek k hk).step hf hr, fun hm => (h.lk hm).step hf hr⟩
/-- an entry was put behind those that were met -/
theorem WkR.push {k : List Nat} {v' : Value} (h : WkR W w R K t c be es st (some k) fv fL fx mv mL mt ev id lv lk) (ho : OwE w1 W.heap.size v' (mL ++ [(ev, id)])) (hg : w.grownBy w1 mv.ownBlock) (hn : NewB w mv v') :
    WkR W w1 R (fun k => K k ∨ (w.heap.size ≤ k ∧ k < w1.heap.size)) t c be es st (some k) fv fL fx v' (mL ++ [(ev, id)]) (mt ++ [(k, id)]) ev id ev k := by
  have hf : Frm (fun k => mv.ownBlock = some k) w w1 := Frm.ofGrown hg (fun k e => e)
  have hr : ∀ k, R k → ¬ mv.ownBlock = some k := fun k hk g => (h.km k g).2.1 hk
  have hc : c < w.heap.size := h.cur.lt
  have hbe : be < w.heap.size := (Array.getElem?_eq_some_iff.1 h.box).1
  have ht1 : Tc W w1 t es K := h.tree.write hf (fun k hk => ⟨(h.km k hk).1, (h.mo.1.lt k hk).1⟩)
  have ht2 : Tc W w1 t es (fun k => K k ∨ (w.heap.size ≤ k ∧ k < w1.heap.size)) := by
    obtain ⟨F, q1, q2, q3⟩ := h.tree
    have hd : ∀ k, mv.ownBlock = some k → ¬ F k := fun k hk g => (q2 k (h.km k hk).1).1 g
    refine ⟨F, q1.step hf (fun k hk e => hd k e hk), fun k hk => ?_, ht1.bel⟩
    rcases hk with g | g
    · exact ⟨(q2 k g).1, Nat.lt_of_lt_of_le (q2 k g).2 hf.size⟩
    · exact ⟨fun e => by have := (q1.low k e).2; omega, g.2⟩
  have hek := (h.ek k rfl).step hf hr
  refine ⟨ht2, fun k hk => .inl (h.rk k hk), fun k hk => ⟨(h.rl k hk).1, Nat.lt_of_lt_of_le (h.rl k hk).2 hf.size⟩, h.fixed.step hf hr, h.cur.step hf (fun g => (h.km c g).2.2.1 rfl), ⟨.inl h.kc.1, h.kc.2⟩,
    (hf.heap hbe (fun g => (h.km be g).2.2.2 rfl)).trans h.box, ⟨.inl h.kb.1, h.kb.2⟩, ho, (h.me.step hf hr).app (EntsAt.one id hek), fun k' hk' => ?_, fun k' hk' => by cases hk'; exact hek, fun _ => hek⟩
  rcases hn k' hk' with g | g
  · exact ⟨.inl (h.km k' g).1, (h.km k' g).2⟩
  · exact ⟨.inr ⟨g, (ho.1.lt k' hk').2⟩, fun e => by have := (h.rl k' e).2; omega, by omega, by omega⟩

/-- the walk's state, its sets left out -/
def Wk (W w : World) (t c be : Nat) (es : List Ent) (st sk : Option (List Nat)) (fv : Value) (fx : List Ent) (mv : Value) (mt : List Ent) (ev : Value) (id : Int) (lv : Value) (lk : List Nat) : Prop :=
  ∃ R K fL mL, WkR W w R K t c be es st sk fv fL fx mv mL mt ev id lv lk
theorem Wk.below (h : Wk W w t c be es st sk fv fx mv mt ev id lv lk) (hb : Below w.heap.size w w1) : Wk W w1 t c be es st sk fv fx mv mt ev id lv lk := by
  obtain ⟨R, K, fL, mL, q⟩ := h
  exact ⟨R, K, fL, mL, q.below hb⟩
theorem Wk.bel (h : Wk W w t c be es st sk fv fx mv mt ev id lv lk) : Below W.heap.size W w := by
  obtain ⟨R, K, fL, mL, q⟩ := h
  exact q.tree.bel
theorem Wk.box (h : Wk W w t c be es st sk fv fx mv mt ev id lv lk) : w.heap[be]? = some (.cells #[ev, .int .i64 id] 42 (0, 0)) := by
  obtain ⟨R, K, fL, mL, q⟩ := h
  exact q.box
theorem Wk.met (h : Wk W w t c be es st sk fv fx mv mt ev id lv lk) : ∃ g cap, mv = .slice (some ⟨g, 0, none⟩) mt.length cap := by
  obtain ⟨R, K, fL, mL, q⟩ := h
  obtain ⟨g, cap, e, -⟩ := q.mo.form
  exact ⟨g, cap, by rw [e, q.me.len]⟩
theorem Wk.fix (h : Wk W w t c be es st sk fv fx mv mt ev id lv lk) : ∃ g cap, fv = .slice (some ⟨g, 0, none⟩) fx.length cap := by
  obtain ⟨R, K, fL, mL, q⟩ := h
  obtain ⟨g, cap, e, -⟩ := q.fixed.own.form
  exact ⟨g, cap, by rw [e, q.fixed.ents.len]⟩
theorem Wk.key {k : List Nat} (h : Wk W w t c be es st (some k) fv fx mv mt ev id lv lk) : KeyAt w (fun _ => True) ev k := by
  obtain ⟨R, K, fL, mL, q⟩ := h
  exact (q.ek k rfl).mono (fun _ _ => trivial)
theorem Wk.last (h : Wk W w t c be es st sk fv fx mv mt ev id lv lk) (hm : mt ≠ []) : KeyAt w (fun _ => True) lv lk := by
  obtain ⟨R, K, fL, mL, q⟩ := h
  exact (q.lk hm).mono (fun _ _ => trivial)
theorem Wk.bs (h : Wk W w t c be es st sk fv fx mv mt ev id lv lk) : BS W w t es fv fx := by
  obtain ⟨R, K, fL, mL, q⟩ := h
  exact ⟨R, fL, q.tree.mono q.rk, q.fixed⟩
/-- the met entry is put behind (b: the block of the literal it stood in) -/
theorem Wk.own {k : List Nat} (h : Wk W w t c be es st (some k) fv fx mv mt ev id lv lk) : ∃ mL, OwE w W.heap.size mv mL ∧ mL.length = mt.length ∧ ev.oneCell' = true ∧ ∀ w1 v', OwE w1 W.heap.size v' (mL ++ [(ev, id)]) → w.grownBy w1 mv.ownBlock → NewB w mv v' → Wk W w1 t c be es st (some k) fv fx v' (mt ++ [(k, id)]) ev id ev k := by
  obtain ⟨R, K, fL, mL, q⟩ := h
  exact ⟨mL, q.mo, q.me.len, (q.ek k rfl).one, fun w1 v' h1 h2 h3 => ⟨_, _, _, _, q.push h1 h2 h3⟩⟩
/-- the last key is copied -/
theorem wk_copy {k : List Nat} {lv : Value} {lk : List Nat} (h : Wk W w t c be es st (some k) fv fx mv mt ev id lv lk) (hl : k.length ≤ 17592186044416) :
    Calls Try.prog 11 #[ev] w fun e w' => ∃ v, e = .returned v ∧ Wk W w' t c be es st (some k) fv fx mv mt ev id v k := by
  obtain ⟨R, K, fL, mL, q⟩ := h
  have hq := q.ek k rfl
  have hlt := hq.lt
  obtain ⟨a, b, off, cap, ee, h1, h2⟩ := _root_.id hq
  have hcp := refcopy_any a b off cap k hl w (h1.imp_right fun h => h.1) h2
  rw [← ee] at hcp
  refine hcp.mono ?_
  rintro e w' ⟨v, rfl, h3, h4⟩
  have q' := q.more h4
  exact ⟨v, rfl, _, _, _, _, q'.tree, q'.rk, q'.rl, q'.fixed, q'.cur, q'.kc, q'.box, q'.kb, q'.mo, q'.me, q'.km, q'.ek, fun _ => h3.keyAt hlt (fun g hg => .inr (h3.1.lt g hg))⟩
theorem wk_put (h : Wk W w t c be es st sk fv fx mv mt ev id lv lk) (hn : es.length ≤ 134217728) {R0 : Bl} {u : Value} {k : List Nat} (hu : KeyAt w R0 u k) (n : Int) :
    Calls Try.prog 12 #[.pointer (some ⟨t, 0, none⟩), u, .int .i64 n] w fun e w' => (∃ b, e = .returned (.bool b)) ∧ Wk W w' t c be (ePut es k n) st sk fv fx mv mt ev id lv lk := by
  obtain ⟨R, K, fL, mL, q⟩ := h
  refine (tk_put q.tree hn hu n).mono ?_
  rintro e w' ⟨rfl, h3, h4⟩
  exact ⟨⟨_, rfl⟩, R, K, fL, mL, q.frm h3 h4⟩
theorem wk_drop (h : Wk W w t c be es st sk fv fx mv mt ev id lv lk) (hn : es.length ≤ 134217728) {R0 : Bl} {u : Value} {k : List Nat} (hu : KeyAt w R0 u k) :
    Calls Try.prog 14 #[.pointer (some ⟨t, 0, none⟩), u] w fun e w' => (∃ b, e = .returned (.bool b)) ∧ Wk W w' t c be (eDel es k) st sk fv fx mv mt ev id lv lk := by
  obtain ⟨R, K, fL, mL, q⟩ := h
  refine (tk_drop q.tree hn hu).mono ?_
  rintro e w' ⟨rfl, h3, h4⟩
  exact ⟨⟨_, rfl⟩, R, K, fL, mL, q.frm h3 h4⟩
theorem wk_next {k : List Nat} {st' : Option (List Nat)} (h : Wk W w t c be es (some k) sk fv fx mv mt ev id lv lk) (hsz : k.length ≤ 17592186044416) (hst : seekSt es (k ++ [0]) = st') :
    Calls Try.prog 20 #[.pointer (some ⟨c, 0, none⟩)] w fun e w' => (∃ b, e = .returned (.bool b)) ∧ Wk W w' t c be es st' sk fv fx mv mt ev id lv lk := by
  obtain ⟨R, K, fL, mL, q⟩ := h
  obtain ⟨F, h1, h2, h3⟩ := _root_.id q.tree
  refine (cnext_any _ w F t es h1 c (some k) q.cur (fun k' e => by cases e; exact hsz)).mono ?_
  rintro e w' ⟨rfl, hf, q2⟩
  have q2' : CurAt w' c t st' := by rw [← hst]; exact q2
  have hr : ∀ k, R k → ¬ k = c := fun k hk g => q.kc.2.1 (g ▸ hk)
  exact ⟨⟨_, rfl⟩, R, K, fL, mL, q.tree.write hf (fun k hk => by subst hk; exact ⟨q.kc.1, q.kc.2.2⟩), q.rk, fun k hk => ⟨(q.rl k hk).1, Nat.lt_of_lt_of_le (q.rl k hk).2 hf.size⟩, q.fixed.step hf hr, q2', q.kc,
    (hf.heap (Array.getElem?_eq_some_iff.1 q.box).1 q.kb.2.2.2).trans q.box, q.kb, hf.owE q.mo (fun k hk g => (q.km k hk).2.2.1 g), q.me.step hf hr, q.km, fun k hk => (q.ek k hk).step hf hr, fun hm => (q.lk hm).step hf hr⟩
/-- the entry where the cursor stands: it is ready for its box -/
theorem wk_entry (h : Wk W w t c be es st sk fv fx mv mt ev id lv lk) (hs : Srt es) (hin : ∀ k, st = some k → ∃ n, (k, n) ∈ es) :
    Calls Try.prog 27 #[.pointer (some ⟨c, 0, none⟩)] w fun e w' => ∃ v n b, e = .returned (.tuple #[.agg #[v, .int .i64 n], .bool b]) ∧ b = st.isSome ∧ (∀ k, st = some k → (k, n) ∈ es) ∧ (∃ a m cp, v = .slice a m cp) ∧ Below w.heap.size w w' ∧ Wk W w' t c be es st sk fv fx mv mt ev id lv lk ∧
      ∀ w2, w2.heap[be]? = some (.cells #[v, .int .i64 n] 42 (0, 0)) → Frm (fun k => k = be) w' w2 → Wk W w2 t c be es st st fv fx mv mt v n lv lk := by
  obtain ⟨R, K, fL, mL, q⟩ := h
  obtain ⟨F, h1, h2, h3⟩ := _root_.id q.tree
  refine (centry_any _ w F t es h1 c st q.cur).mono ?_
  rintro e w' ⟨hb, ⟨k, n, v, rfl, q1, q2, q3, rfl⟩ | ⟨q1, rfl⟩⟩
  · have q' := q.more hb
    have hk : KeyAt w' (fun k => R k ∨ (w.heap.size ≤ k ∧ k < w'.heap.size)) v k := q3.keyAt (fun g hg => .inr (q3.lt g hg))
    exact ⟨v, n, true, rfl, rfl, (fun k' e => by cases e; exact List.mem_of_getElem? q2), (by obtain ⟨a, b, off, cap, rfl, -⟩ := hk; exact ⟨_, _, _, rfl⟩), hb, ⟨_, _, _, _, q'⟩, fun w2 h4 h5 => ⟨_, _, _, _, q'.boxed (fun k' e => by cases e; exact hk) h4 h5⟩⟩
  · have hno : st = none := by
      cases hst : st with
      | none => rfl
      | some k =>
        obtain ⟨n, hn⟩ := hin k hst
        obtain ⟨i, hi⟩ := List.getElem?_of_mem hn
        have := q1 k hst
        have h5 := ePl_found hs hi
        simp only at h5
        rw [h5] at this
        cases this
    subst hno
    have q' := q.below hb
    exact ⟨_, _, false, rfl, rfl, (fun k' e => by cases e), ⟨_, _, _, rfl⟩, hb, ⟨_, _, _, _, q'⟩, fun w2 h4 h5 => ⟨_, _, _, _, q'.boxed (fun k' e => by cases e) h4 h5⟩⟩
/-- one of those that were met -/
theorem Wk.at (h : Wk W w t c be es st sk fv fx mv mt ev id lv lk) : ∃ g cap mf, mv = .slice (some ⟨g, 0, none⟩) mt.length cap ∧ EnR w g mt.length mt mf := by
  obtain ⟨R, K, fL, mL, q⟩ := h
  obtain ⟨g, cap, e, h1, h2, -, h4⟩ := q.mo.form
  refine ⟨g, cap, fun i => ((mL[i]?).map (·.1)).getD (.bool false), by rw [e, q.me.len], h2, rfl, fun i x hx => ?_⟩
  have hi : i < mL.length := by rw [q.me.len]; exact (List.getElem?_eq_some_iff.1 hx).1
  have hp : mL[i]? = some mL[i] := List.getElem?_eq_getElem hi
  obtain ⟨q1, q2⟩ := h4 i _ hp
  obtain ⟨q3, q4⟩ := q.me.at' i _ x hp hx
  rw [hp]
  exact ⟨q1, by rw [q2, q4], q3.mono (fun _ _ => trivial)⟩
theorem BS.at {W w : World} {t : Nat} {es fx : List Ent} {fv : Value} (h : BS W w t es fv fx) : ∃ g cap mf, fv = .slice (some ⟨g, 0, none⟩) fx.length cap ∧ EnR w g fx.length fx mf := by
  obtain ⟨R, L, h1, q⟩ := h
  obtain ⟨g, cap, e, h1, h2, -, h4⟩ := q.own.form
  refine ⟨g, cap, fun i => ((L[i]?).map (·.1)).getD (.bool false), by rw [e, q.ents.len], h2, rfl, fun i x hx => ?_⟩
  have hi : i < L.length := by rw [q.ents.len]; exact (List.getElem?_eq_some_iff.1 hx).1
  have hp : L[i]? = some L[i] := List.getElem?_eq_getElem hi
  obtain ⟨q1, q2⟩ := h4 i _ hp
  obtain ⟨q3, q4⟩ := q.ents.at' i _ x hp hx
  rw [hp]
  exact ⟨q1, by rw [q2, q4], q3.mono (fun _ _ => trivial)⟩

end Go.Proofs.Ytncganfjbalkgaa

namespace Go.Proofs.Ytncganfjbalkgaa
open Go.RowKit Go.Joins Go.ChangeShapes Go.WideShapes
set_option linter.unusedVariables false
set_option linter.unusedSimpArgs false

def slen : Value → Nat
  | .slice _ n _ => n
  | _ => 0
theorem bs_made {W w : World} {t : Nat} (h : Tc W w t [] (fun _ => False)) : BS W (w.alloc (.cells #[] 42)) t [] (.slice (some ⟨w.heap.size, 0, none⟩) 0 0) [] :=
  ⟨fun k => k = w.heap.size, [], h.more ((Below.refl _ _).alloc (Nat.le_refl _) _) (fun k hk => .inr ⟨by omega, by simp; omega⟩),
    ⟨⟨World.ownsRow_made w #[] 0 h.bel.size (by decide) rfl, by simp⟩, EntsAt.nil _ _, fun k hk => by simp [Value.ownBlock] at hk; exact hk.symm, fun k hk => by subst hk; exact ⟨h.bel.size, by simp⟩⟩⟩
theorem key_nil (w : World) : KeyAt w (fun _ => True) (.slice none 0 0) [] := ⟨none, 0, 0, 0, rfl, .inl rfl, ⟨fun h => absurd h (by simp), fun i x hx => absurd hx (by simp), fun x hx => absurd hx (by simp)⟩⟩
/-- wA: the entries that stay are laid · wB: the empty list of what is met · wC: the cursor · wD: its entry · wE: the entry's box -/
theorem wk_start {W wA wB wC wD : World} {t c gm be : Nat} {fx : List Ent} {fv : Value} {st : Option (List Nat)} {e : Ending} (h : BS W wA t fx fv fx) (hs : Srt fx) (hst : st = seekSt fx [])
    (hgm : wA.heap.size = gm) (hB : wA.alloc (.cells #[] 42) = wB) (hC : Below wB.heap.size wB wC) (hc1 : wB.heap.size ≤ c) (hc2 : CurAt wC c t st) (hD : EntPost wC fx st e wD) :
    ∃ v n b, e = .returned (.tuple #[.agg #[v, .int .i64 n], .bool b]) ∧ b = st.isSome ∧ (∀ k, st = some k → (k, n) ∈ fx) ∧ (∃ a m cp, v = .slice a m cp) ∧ Below W.heap.size W wD ∧
      ∀ wE lv lk, wE = wD.alloc (.cells #[v, .int .i64 n] 42) → wD.heap.size = be → Wk W wE t c be fx st st fv fx (.slice (some ⟨gm, 0, none⟩) 0 0) [] v n lv lk := by
  obtain ⟨R, L, h1, h2⟩ := h
  have hAB : Below wA.heap.size wA wB := by rw [← hB]; exact (Below.refl _ _).alloc (Nat.le_refl _) _
  have hgl : gm < wB.heap.size := by rw [← hB, ← hgm]; simp
  have hW := h1.bel.size
  have hAD := (hAB.trans (hC.mono hAB.size)).trans (hD.1.mono (Nat.le_trans hAB.size hC.size))
  have hWD : Below W.heap.size W wD := stepB h1.bel hAD
  have hlc := hc2.lt
  have main : ∀ (v : Value) (n : Int), (∀ k, st = some k → KeyAt wD (fun k => wC.heap.size ≤ k ∧ k < wD.heap.size) v k) → ∀ wE lv lk, wE = wD.alloc (.cells #[v, .int .i64 n] 42) → wD.heap.size = be → Wk W wE t c be fx st st fv fx (.slice (some ⟨gm, 0, none⟩) 0 0) [] v n lv lk := by
    intro v n hk wE lv lk hE hbe
    have hDE : Below wD.heap.size wD wE := by rw [hE]; exact (Below.refl _ _).alloc (Nat.le_refl _) _
    have hAE := hAD.trans (hDE.mono hAD.size)
    have hbl : be < wE.heap.size := by rw [hE, ← hbe]; simp
    have hsz1 := hAB.size
    have hsz2 := hC.size
    have hsz3 := hD.1.size
    have hsz4 := hDE.size
    have hlow : ∀ k, R k → k < wA.heap.size := fun k hk => by obtain ⟨F, _, q, _⟩ := h1; exact (q k hk).2
    have hlo2 : ∀ k, R k → W.heap.size ≤ k := fun k hk => by
      exact (h2.rb k hk).1
    have h2E := h2.below hAE
    refine ⟨fun k => R k ∨ (wC.heap.size ≤ k ∧ k < wD.heap.size), fun k => R k ∨ (wA.heap.size ≤ k ∧ k < wE.heap.size), L, [],
      h1.more hAE (fun k hk => hk), fun k hk => hk.imp_right (fun q => by omega), fun k hk => ?_, ⟨h2E.own, h2E.ents.mono (fun _ g => .inl g), fun k hk => .inl (h2E.rv k hk), fun k hk => ?_⟩,
      hc2.step (Frm.of_below (F := fun _ => False) (hD.1.trans (hDE.mono hD.1.size))) (fun h => h), ⟨.inr ⟨by omega, by omega⟩, fun g => ?_, by omega⟩, by rw [hE, ← hbe]; exact heap_alloc_new _ _, ⟨.inr ⟨by omega, hbl⟩, fun g => ?_, by omega, by omega⟩,
      ⟨?_, by simp⟩, EntsAt.nil _ _, fun k hk' => ?_, fun k hk' => ((hk k hk').step (Frm.of_below (F := fun _ => False) hDE) (fun _ _ h => h)).mono (fun _ g => .inr g), fun hn => absurd rfl hn⟩
    · rcases hk with q | q
      · have := hlow k q; have := hlo2 k q; omega
      · omega
    · rcases hk with q | q
      · have := hlow k q; have := hlo2 k q; omega
      · omega
    · rcases g with q | q
      · have := hlow c q; omega
      · omega
    · rcases g with q | q
      · have := hlow be q; omega
      · omega
    · have hm := World.ownsRow_made (base := W.heap.size) (e := 42) (size := 2) wA #[] 0 hW (by decide) rfl
      rw [hB, hgm] at hm
      exact rowBelow hm ((hC.trans (hD.1.mono hC.size)).trans (hDE.mono (Nat.le_trans hC.size hD.1.size)))
    · simp only [Value.ownBlock, Option.some.injEq] at hk'
      subst hk'
      refine ⟨.inr ⟨by omega, by omega⟩, fun g => ?_, by omega, by omega⟩
      rcases g with q | q
      · have := hlow gm q; omega
      · omega
  rcases hD.2 with ⟨k, n, v, q0, q1, q2, q3, q4⟩ | ⟨q1, q2⟩
  · refine ⟨v, n, true, q4, by rw [q0]; rfl, fun k' e => ?_, ?_, hWD, main v n (fun k' e => ?_)⟩
    · rw [q0] at e; cases e; exact List.mem_of_getElem? q2
    · obtain ⟨g, cp, rfl, -⟩ := q3; exact ⟨_, _, _, rfl⟩
    · rw [q0] at e; cases e
      exact q3.keyAt (fun g hg => q3.lt g hg)
  · have hno : st = none := by
      cases hq : st with
      | none => rfl
      | some k =>
        rw [hq] at hst
        obtain ⟨⟨n, hn⟩, -⟩ := seek_some hs hst.symm
        obtain ⟨i, hi⟩ := List.getElem?_of_mem hn
        have h5 := ePl_found hs hi
        have := q1 k hq
        simp only at h5
        rw [h5] at this
        cases this
    exact ⟨_, _, false, q2, by rw [hno]; rfl, fun k' e => by (rw [hno] at e; cases e), ⟨_, _, _, rfl⟩, hWD, main _ _ (fun k' e => by rw [hno] at e; cases e)⟩

theorem Wl.more {fx es mt : List Ent} {st : Option (List Nat)} {N N' : Nat} (h : Wl fx es mt st N) (hN : N ≤ N') : Wl fx es mt st N' := ⟨h.sf, h.se, h.fe, h.ef, h.fp, h.at_, h.mlt, h.filt, Nat.le_trans h.cnt hN⟩
theorem Wl.here {fx es mt : List Ent} {k : List Nat} {id : Int} {N : Nat} (h : Wl fx es mt (some k) N) (hk : (k, id) ∈ es) : mt.length + 1 ≤ N := by
  have h1 : (k, id) ∈ es.filter (fun e => !belw (some k) e) := List.mem_filter.2 ⟨hk, by show (!kb k (k, id)) = true; simp only [Bool.not_eq_true']; rw [Bool.eq_false_iff]; intro g; exact klt_irr _ ((kb_iff _ _).1 g)⟩
  have h2 := List.length_pos_of_mem h1
  have h3 := h.cnt
  omega
theorem Wl.done {fx es mt : List Ent} {N : Nat} (h : Wl fx es mt none N) : mt.filter (fun e => decide (0 < e.2)) = fx := by
  rw [h.filt]
  exact List.filter_eq_self.2 (fun _ _ => rfl)
/-- a round's end, where the cursor went on -/
theorem Wl.goes {fx es es' mt : List Ent} {k : List Nat} {n : Int} {N d : Nat} (h : Wl fx es mt (some k) N) (t : Turn fx es es' d) (hk : (k, n) ∈ es) : Wl fx es' (mt ++ [(k, n)]) (seekSt es' (k ++ [0])) (N + d) := by
  obtain ⟨h1, h2, h3, h4⟩ := t.ok h
  exact h.next hk h1 h2 h3 (h4 _)
theorem Wl.stays {fx es es' mt : List Ent} {N d : Nat} (h : Wl fx es mt none N) (t : Turn fx es es' d) : Wl fx es' mt none N := by
  obtain ⟨h1, h2, h3, h4⟩ := t.ok h
  exact h.rest h1 h2 h3
theorem Turn.keys {fx es es' : List Ent} {d B : Nat} (t : Turn fx es es' d) (h : ∀ e ∈ es, e.1.length ≤ B) (hk : ∀ k, (∀ e ∈ ePut es k (-1), e ∈ es ∨ e = (k, -1)) → es' = ePut es k (-1) → k.length ≤ B) : ∀ e ∈ es', e.1.length ≤ B := by
  cases t with
  | put k =>
    intro e he
    rcases ePut_mem he with q | rfl
    · exact h e q
    · exact hk k (fun e he => ePut_mem he) rfl
  | drop k _ => exact fun e he => h e (eDel_mem he)
  | none d => exact h
theorem box_puts {w : World} {be : Nat} {a b c d : Value} (h : w.heap[be]? = some (.cells #[a, b] 42 (0, 0))) : ((w.setCell ⟨be, 0, none⟩ c).setCell ⟨be, 1, none⟩ d).heap[be]? = some (.cells #[c, d] 42 (0, 0)) ∧ Frm (fun k => k = be) w ((w.setCell ⟨be, 0, none⟩ c).setCell ⟨be, 1, none⟩ d) := by
  have h2 : (w.setCell ⟨be, 0, none⟩ c).heap[be]? = some (.cells #[c, b] 42 (0, 0)) := by rw [setCell_eq_setRow _ be 0 #[a, b] _ _ c h, setRow_heap _ be _ _ _ _ h]; rfl
  refine ⟨by rw [setCell_eq_setRow _ be 1 #[c, b] _ _ d h2, setRow_heap _ be _ _ _ _ h2]; rfl, ((Frm.set1 (F := fun k => k = be) w rfl 0 c)).setCell (.inl rfl) 1 d⟩

end Go.Proofs.Ytncganfjbalkgaa

