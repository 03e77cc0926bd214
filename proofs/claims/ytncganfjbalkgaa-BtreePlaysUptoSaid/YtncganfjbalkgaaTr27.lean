/-
  Two trees of the law's own beside each other; a sorted list is known by its entries.
  Conditions: none.
-/
import Derived.Test.YtncganfjbalkgaaTr26
namespace Go.Proofs.Ytncganfjbalkgaa
open Go.RowKit Go.Joins Go.ChangeShapes Go.WideShapes
set_option linter.unusedVariables false

/-- two sorted lists with the same entries are the same -/
theorem srt_eq : ∀ {l r : List Ent}, Srt l → Srt r → (∀ e, e ∈ l ↔ e ∈ r) → l = r
  | [], [], _, _, _ => rfl
  | [], b :: r, _, _, h => by have := (h b).2 (List.mem_cons_self ..); simp at this
  | a :: l, [], _, _, h => by have := (h a).1 (List.mem_cons_self ..); simp at this
  | a :: l, b :: r, hl, hr, h => by
    have hl' := List.pairwise_cons.1 hl
    have hr' := List.pairwise_cons.1 hr
    have hab : a = b := by
      rcases List.mem_cons.1 ((h a).1 (List.mem_cons_self ..)) with q | q
      · exact q
      · rcases List.mem_cons.1 ((h b).2 (List.mem_cons_self ..)) with q2 | q2
        · exact q2.symm
        · exact absurd (hr'.1 a q) (klt_asym (hl'.1 b q2))
    subst hab
    have ht : l = r := srt_eq hl'.2 hr'.2 (fun e => by
      constructor
      · intro he
        rcases List.mem_cons.1 ((h e).1 (List.mem_cons_of_mem _ he)) with q | q
        · subst q; exact absurd (hl'.1 e he) (klt_irr _)
        · exact q
      · intro he
        rcases List.mem_cons.1 ((h e).2 (List.mem_cons_of_mem _ he)) with q | q
        · subst q; exact absurd (hr'.1 e he) (klt_irr _)
        · exact q)
    rw [ht]
theorem ePl_key {l : List Ent} {k : List Nat} (h : (ePl l k).2 = true) : ∃ n, l[(ePl l k).1]? = some (k, n) := by
  have h1 := (ePl_le l k).2 h
  have hx : l[(ePl l k).1]? = some l[(ePl l k).1] := List.getElem?_eq_getElem h1
  have h2 := ePl_hit hx
  rw [h] at h2
  have h3 : l[(ePl l k).1].1 = k := of_decide_eq_true h2.symm
  exact ⟨l[(ePl l k).1].2, by rw [hx]; exact congrArg some (Prod.ext h3 rfl)⟩
theorem ePut_has {l : List Ent} {k : List Nat} {id : Int} (h : (ePl l k).2 = false) : (k, id) ∈ ePut l k id ∧ ∀ e ∈ l, e ∈ ePut l k id := by
  unfold ePut
  rw [if_neg (by rw [h]; decide)]
  refine ⟨by simp, fun e he => ?_⟩
  rw [← List.take_append_drop (ePl l k).1 l] at he
  rcases List.mem_append.1 he with q | q
  · exact List.mem_append_left _ (List.mem_append_left _ q)
  · exact List.mem_append_right _ q

/-- two trees of the law's own that share no block -/
def TT (W w : World) (t1 : Nat) (es1 : List Ent) (t2 : Nat) (es2 : List Ent) : Prop :=
  ∃ B1 B2 F1 F2, TrX B1 w F1 t1 es1 ∧ TrX B2 w F2 t2 es2 ∧ W.heap.size ≤ B1 ∧ W.heap.size ≤ B2 ∧ (∀ k, F1 k → ¬ F2 k) ∧ Below W.heap.size W w
theorem TT.swap {W w : World} {t1 t2 : Nat} {es1 es2 : List Ent} (h : TT W w t1 es1 t2 es2) : TT W w t2 es2 t1 es1 := by
  obtain ⟨B1, B2, F1, F2, h1, h2, h3, h4, h5, h6⟩ := h
  exact ⟨B2, B1, F2, F1, h2, h1, h4, h3, fun k hk g => h5 k g hk, h6⟩
theorem TT.below {W w w1 : World} {t1 t2 : Nat} {es1 es2 : List Ent} (h : TT W w t1 es1 t2 es2) (hb : Below w.heap.size w w1) : TT W w1 t1 es1 t2 es2 := by
  obtain ⟨B1, B2, F1, F2, h1, h2, h3, h4, h5, h6⟩ := h
  exact ⟨B1, B2, F1, F2, h1.below hb, h2.below hb, h3, h4, h5, stepB h6 hb⟩
theorem TT.bel {W w : World} {t1 t2 : Nat} {es1 es2 : List Ent} (h : TT W w t1 es1 t2 es2) : Below W.heap.size W w := by
  obtain ⟨B1, B2, F1, F2, h1, h2, h3, h4, h5, h6⟩ := h
  exact h6
theorem TT.srt {W w : World} {t1 t2 : Nat} {es1 es2 : List Ent} (h : TT W w t1 es1 t2 es2) : Srt es1 := by
  obtain ⟨B1, B2, F1, F2, h1, -⟩ := h
  exact h1.srt
theorem tt_new (W w : World) (t1 : Nat) (h : Tc W w t1 [] (fun _ => False)) : Calls Try.prog 8 #[] w fun e w' => ∃ t2, e = .returned (.pointer (some ⟨t2, 0, none⟩)) ∧ TT W w' t1 [] t2 [] := by
  obtain ⟨F, h1, -, h3⟩ := h
  refine (tnew_any w).mono ?_
  rintro e w' ⟨t2, F2, rfl, h4, h5⟩
  exact ⟨t2, rfl, _, _, F, F2, h1.below h5, h4, Nat.le_refl _, h3.size, fun k hk g => by
    have := (h1.low k hk).2
    have := (h4.low k g).1
    omega, stepB h3 h5⟩
theorem tt_put {W w : World} {t1 t2 : Nat} {es1 es2 : List Ent} (h : TT W w t1 es1 t2 es2) (hn : es1.length ≤ 134217728) {R : Bl} {u : Value} {k : List Nat} (hu : KeyAt w R u k) (id : Int) :
    Calls Try.prog 12 #[.pointer (some ⟨t1, 0, none⟩), u, .int .i64 id] w fun e w' => (∃ b, e = .returned (.bool b)) ∧ TT W w' t1 (ePut es1 k id) t2 es2 := by
  obtain ⟨B1, B2, F1, F2, h1, h2, h3, h4, h5, h6⟩ := h
  refine (tput_any _ w F1 t1 es1 h1 (by omega) R u k hu id).mono ?_
  rintro e w' ⟨rfl, F', hf, hnw, ht⟩
  refine ⟨⟨_, rfl⟩, B1, B2, F', F2, ht, h2.step hf (fun k hk g => h5 k g hk), h3, h4, fun k hk g => ?_, h6.trans (hf.below (fun k hk => Nat.le_trans h3 (h1.low k hk).1) h6.size)⟩
  rcases hnw k hk with q | q
  · exact h5 k q g
  · have := (h2.low k g).2; omega

/-- the entries of the keys from lo to hi, each with its length -/
def OrdE (kf : Nat → List Nat) (lo hi : Nat) (es : List Ent) : Prop := ∀ e, e ∈ es ↔ ∃ j, lo ≤ j ∧ j < hi ∧ e = (kf j, ((kf j).length : Int))
theorem OrdE.put {kf : Nat → List Nat} {lo hi lo' hi' i : Nat} {es : List Ent} (h : OrdE kf lo hi es) (hq : ∀ j, (lo' ≤ j ∧ j < hi') ↔ ((lo ≤ j ∧ j < hi) ∨ j = i)) : OrdE kf lo' hi' (ePut es (kf i) ((kf i).length : Int)) := by
  intro e
  constructor
  · intro he
    rcases ePut_mem he with he | rfl
    · obtain ⟨j, q1, q2, q3⟩ := (h e).1 he
      exact ⟨j, ((hq j).2 (.inl ⟨q1, q2⟩)).1, ((hq j).2 (.inl ⟨q1, q2⟩)).2, q3⟩
    · exact ⟨i, ((hq i).2 (.inr rfl)).1, ((hq i).2 (.inr rfl)).2, rfl⟩
  · rintro ⟨j, q1, q2, rfl⟩
    cases hb : (ePl es (kf i)).2 with
    | false =>
      obtain ⟨g1, g2⟩ := ePut_has (id := ((kf i).length : Int)) hb
      rcases (hq j).1 ⟨q1, q2⟩ with ⟨a, b⟩ | rfl
      · exact g2 _ ((h _).2 ⟨j, a, b, rfl⟩)
      · exact g1
    | true =>
      unfold ePut
      rw [if_pos hb]
      rcases (hq j).1 ⟨q1, q2⟩ with ⟨a, b⟩ | rfl
      · exact (h _).2 ⟨j, a, b, rfl⟩
      · obtain ⟨n, hn⟩ := ePl_key hb
        have hm := List.mem_of_getElem? hn
        obtain ⟨j', a, b, e⟩ := (h _).1 hm
        injection e with e1 e2
        rw [e2, ← e1] at hm
        exact hm
theorem OrdE.eq {kf : Nat → List Nat} {lo hi : Nat} {l r : List Ent} (h : OrdE kf lo hi l) (g : OrdE kf lo hi r) (hl : Srt l) (hr : Srt r) : l = r := srt_eq hl hr fun e => (h e).trans (g e).symm

theorem ePut_le (l : List Ent) (k : List Nat) (id : Int) : (ePut l k id).length ≤ l.length + 1 := by
  cases hb : (ePl l k).2 with
  | false => exact Nat.le_of_eq (ePut_len hb)
  | true => unfold ePut; rw [if_pos hb]; omega
theorem tt_ents {W w : World} {t1 t2 : Nat} {es1 es2 : List Ent} (h : TT W w t1 es1 t2 es2) (hn : es1.length ≤ 4294967296) : Calls Try.prog 26 #[.pointer (some ⟨t1, 0, none⟩)] w fun e w' => ∃ v L, e = .returned v ∧ EnS w w' w.heap.size v L es1 := by
  obtain ⟨B1, B2, F1, F2, h1, -⟩ := h
  exact tents_any _ w F1 t1 es1 h1 hn
theorem tt_from {W w : World} {t1 t2 : Nat} {es1 es2 : List Ent} (h : TT W w t1 es1 t2 es2) {R : Bl} {u : Value} {k : List Nat} (hu : KeyAt w R u k) : Calls Try.prog 16 #[.pointer (some ⟨t1, 0, none⟩), u] w (FromE w es1 k) := by
  obtain ⟨B1, B2, F1, F2, h1, -⟩ := h
  exact tfrom_any _ w F1 t1 es1 h1 R u k hu
theorem same_ents {w0 w1 w2 w3 : World} {v v' : Value} {L L' : List Ev} {l : List Ent} (h : EnS w0 w1 w0.heap.size v L l) (hb : Below w1.heap.size w1 w3) (h' : EnS w2 w3 w2.heap.size v' L' l) (hn : l.length ≤ maxLen) :
    Calls Try.prog 29 #[v, v'] w3 fun e w' => e = .returned (.bool true) ∧ Below w3.heap.size w3 w' := by
  refine (refsame_any _ _ w3 _ _ v v' L L' l l (h.mex.below hb) h'.mex hn hn).mono ?_
  rintro e w' ⟨rfl, q⟩
  exact ⟨by simp, q⟩
theorem key_ord {w : World} {R R' : Bl} {u u' : Value} {k k' : List Nat} (h : KeyAt w R u k) (h' : KeyAt w R' u' k') (hn : k.length ≤ maxLen) (hn' : k'.length ≤ maxLen) : Calls Try.prog 28 #[u, u'] w fun e w' => e = .returned (.int .i64 (ordB k k')) ∧ Below w.heap.size w w' := by
  obtain ⟨a, b, off, cap, rfl, h1, h2⟩ := h
  obtain ⟨a', b', off', cap', rfl, h1', h2'⟩ := h'
  exact refOrder_any a a' b off cap b' off' cap' k k' hn hn' w (h1.imp_right fun h => h.1) (h1'.imp_right fun h => h.1) h2 h2'

/-- the entries of a list, each with its value -/
structure EnR (w : World) (g n : Nat) (es : List Ent) (kv : Nat → Value) : Prop where
  lt : g < w.heap.size
  len : es.length = n
  at_ : ∀ (i : Nat) (e : Ent), es[i]? = some e → w.cell? ⟨g, i * 2, none⟩ = some (kv i) ∧ w.cell? ⟨g, i * 2 + 1, none⟩ = some (.int .i64 e.2) ∧ KeyAt w (fun _ => True) (kv i) e.1
theorem EnR.below {w w1 : World} {g n : Nat} {es : List Ent} {kv : Nat → Value} (h : EnR w g n es kv) (hb : Below w.heap.size w w1) : EnR w1 g n es kv :=
  ⟨Nat.lt_of_lt_of_le h.lt hb.size, h.len, fun i e he => ⟨(hb.cell h.lt).trans (h.at_ i e he).1, (hb.cell h.lt).trans (h.at_ i e he).2.1, (h.at_ i e he).2.2.step (Frm.of_below (F := fun _ => False) hb) (fun _ _ h => h)⟩⟩
theorem EnS.row {W w : World} {base : Nat} {v : Value} {L : List Ev} {es : List Ent} (h : EnS W w base v L es) : ∃ g cap kv, v = .slice (some ⟨g, 0, none⟩) es.length cap ∧ EnR w g es.length es kv := by
  obtain ⟨g, cap, e, h1, h2, -, h4⟩ := h.own.form
  rw [h.len] at e
  refine ⟨g, cap, fun i => ((L[i]?).map (·.1)).getD (.bool false), e, h2, rfl, fun i x hx => ?_⟩
  have hi : i < L.length := by rw [h.len]; exact (List.getElem?_eq_some_iff.1 hx).1
  have hp : L[i]? = some L[i] := List.getElem?_eq_getElem hi
  obtain ⟨q1, q2⟩ := h4 i _ hp
  obtain ⟨q3, q4, q5⟩ := h.keys i _ x hp hx
  rw [hp]
  refine ⟨q1, by rw [q2, q5], q3.keyAt (fun _ _ => trivial)⟩
/-- the first entry from a key on -/
theorem from_here {es : List Ent} {k : List Nat} {q : Nat} {x : Ent} (h : ∀ j, j < q → ∀ e, es[j]? = some e → klt e.1 k) (hx : es[q]? = some x) (hk : ¬ klt x.1 k) : es[(ePl es k).1]? = some x := by
  rw [ePl_at h (Nat.le_of_lt (List.getElem?_eq_some_iff.1 hx).1) (fun e he => by rw [hx] at he; cases he; exact hk)]
  exact hx
theorem from_none {es : List Ent} {k : List Nat} (h : ∀ j, j < es.length → ∀ e, es[j]? = some e → klt e.1 k) : es[(ePl es k).1]? = none := by
  rw [ePl_at h (Nat.le_refl _) (fun e he => by rw [List.getElem?_eq_none (Nat.le_refl _)] at he; cases he)]
  exact List.getElem?_eq_none (Nat.le_refl _)
theorem klt_iff (a b : List Nat) : klt a b ↔ ¬ (0 ≤ ordB a b) := by unfold klt; omega

end Go.Proofs.Ytncganfjbalkgaa
