/-
  What the law that fills a tree and empties it asks: a list of keys that came in, a tree that holds some of them, how many.
  Conditions: none.
-/
import Derived.Test.YtncganfjbalkgaaTr25
import Derived.Test.YtncganfjbalkgaaInb
namespace Go.Proofs.Ytncganfjbalkgaa
open Go.RowKit Go.Joins Go.ChangeShapes Go.WideShapes
set_option linter.unusedVariables false

theorem cells_key : Try.prog.cellsOf 29 = 1 := by kernel_rfl
/-- a list of keys in memory -/
structure KsAt (w : World) (b off n : Nat) (kf : Nat → List Nat) (kv : Nat → Value) : Prop where
  lt : 0 < n → b < w.heap.size
  cell : ∀ i, i < n → w.cell? ⟨b, off + i, none⟩ = some (kv i)
  key : ∀ i, i < n → KeyAt w (fun _ => True) (kv i) (kf i)
  len : ∀ i, i < n → (kf i).length ≤ 1048576
theorem KsAt.below {w w1 : World} {b off n : Nat} {kf : Nat → List Nat} {kv : Nat → Value} (h : KsAt w b off n kf kv) (hb : Below w.heap.size w w1) : KsAt w1 b off n kf kv :=
  ⟨fun h0 => Nat.lt_of_lt_of_le (h.lt h0) hb.size, fun i hi => (hb.cell (h.lt (by omega))).trans (h.cell i hi), fun i hi => (h.key i hi).step (Frm.of_below (F := fun _ => False) hb) (fun _ _ h => h), h.len⟩
theorem open_keys {H : Type} {enc : TypeId × Value → H} {W : World} {base b0 : Nat} {r : Reach} {v : Value} {d : DataW H} {p : List MemPlace}
    (o : Value.okWide Try.prog W r b0 52 v) (h : DataW.Trod enc Try.prog W base (fun _ => true) true 52 v d p) (hb : Rows.uptoBulk d ≤ 1048576) :
    ∃ (a : Option Addr) (n cap b off : Nat) (kf : Nat → List Nat) (kv : Nat → Value), v = .slice a n cap ∧ n ≤ 1048576 ∧ (n = 0 ∨ a = some ⟨b, off, none⟩) ∧ KsAt W b off n kf kv := by
  obtain ⟨a, len, cap, rfl⟩ := okWide_slice Try.underlying52 o
  obtain ⟨fuel, hf⟩ := h
  rcases Go.Deep.open_slice1 Try.underlying52 cells_key hf with ⟨hcs, hx⟩ | ⟨a', len', cap', m, n, V, D, Pl, hcs, hbb, hl, hm, hmm, hx, hi⟩
  · simp [Value.cells] at hcs
    obtain ⟨rfl, rfl, rfl⟩ := hcs
    exact ⟨none, 0, 0, 0, 0, fun _ => [], fun _ => .bool false, rfl, by decide, .inl rfl, ⟨fun h => absurd h (by decide), fun i hi => absurd hi (by omega), fun i hi => absurd hi (by omega), fun i hi => absurd hi (by omega)⟩⟩
  · simp [Value.cells] at hcs
    obtain ⟨rfl, rfl, rfl⟩ := hcs
    simp only [if_true] at hmm
    subst hmm
    simp only [Prod.mk.injEq] at hx
    obtain ⟨rfl, -⟩ := hx
    have hbs : Rows.uptoBulkAll ((List.range len).map D) + Rows.uptoBulkAll ((List.range (m - len)).map fun j => D (len + j)) + 1 ≤ 1048576 := by
      unfold Rows.uptoBulk at hb
      exact hb
    have l1 := up_len ((List.range len).map D)
    rw [List.length_map, List.length_range] at l1
    have hk : ∀ i, ∃ l : List Nat, i < len → KeyAt W (fun _ => True) (V i) l ∧ l.length ≤ 1048576 := by
      intro i
      by_cases hil : i < len
      · have hD : Rows.uptoBulk (D i) ≤ 1048576 := by
          have := up_mem (d := D i) (l := (List.range len).map D) (List.mem_map.2 ⟨i, List.mem_range.2 hil, rfl⟩)
          omega
        obtain ⟨a1, l, c1, b1, o1, e, h1, h2, h3, h4, -⟩ := inner_bytes (hi i (by omega)).2 hD
        injection e with e
        exact ⟨l, fun _ => ⟨⟨a1, b1, o1, c1, e, h3.imp_right fun h => ⟨h, trivial⟩, h4⟩, by omega⟩⟩
      · exact ⟨[], fun h => absurd h hil⟩
    obtain ⟨kf, hkf⟩ := Classical.axiomOfChoice hk
    by_cases h0 : len = 0
    · subst h0
      exact ⟨_, 0, _, 0, 0, kf, V, rfl, by omega, .inl rfl, ⟨fun h => absurd h (by decide), fun i hi => absurd hi (by omega), fun i hi => absurd hi (by omega), fun i hi => absurd hi (by omega)⟩⟩
    · have hsp : a'.spot = none := by
        have c := (hi 0 (by omega)).1
        simpa [Addr.add] using World.cell?_spot c
      obtain ⟨b, off, spot⟩ := a'
      simp only at hsp
      subst hsp
      have ea : ∀ j, (⟨b, off, none⟩ : Addr).add j = ⟨b, off + j, none⟩ := by intro j; unfold Addr.add; split <;> simp_all
      have hlt : b < W.heap.size := by
        have c := (hi 0 (by omega)).1
        rw [ea] at c
        exact World.block_lt_of_cell? W _ c
      refine ⟨_, len, _, b, off, kf, V, rfl, by omega, .inr rfl, ⟨fun _ => hlt, fun i hil => ?_, fun i hil => (hkf i hil).1, fun i hil => (hkf i hil).2⟩⟩
      rw [← ea]
      exact (hi i (by omega)).1
theorem open_ints {H : Type} {enc : TypeId × Value → H} {W : World} {base b0 : Nat} {r : Reach} {v : Value} {d : DataW H} {p : List MemPlace}
    (o : Value.okWide Try.prog W r b0 53 v) (h : DataW.Trod enc Try.prog W base (fun _ => true) true 53 v d p) (hb : Rows.uptoBulk d ≤ 1048576) :
    ∃ (a : Option Addr) (n cap b off : Nat) (f : Nat → Int), v = .slice a n cap ∧ n ≤ 1048576 ∧ (n = 0 ∨ a = some ⟨b, off, none⟩) ∧ (0 < n → b < W.heap.size) ∧ ∀ i, i < n → W.cell? ⟨b, off + i, none⟩ = some (.int .i64 (f i)) := by
  obtain ⟨a, len, cap, rfl⟩ := okWide_slice Try.underlying53 o
  obtain ⟨fuel, hf⟩ := h
  rcases Go.Deep.open_slice1 Try.underlying53 cells_int hf with ⟨hcs, hx⟩ | ⟨a', len', cap', m, n, V, D, Pl, hcs, hbb, hl, hm, hmm, hx, hi⟩
  · simp [Value.cells] at hcs
    obtain ⟨rfl, rfl, rfl⟩ := hcs
    exact ⟨none, 0, 0, 0, 0, fun _ => 0, rfl, by decide, .inl rfl, fun h => absurd h (by decide), fun i hi => absurd hi (by omega)⟩
  · simp [Value.cells] at hcs
    obtain ⟨rfl, rfl, rfl⟩ := hcs
    simp only [if_true] at hmm
    subst hmm
    simp only [Prod.mk.injEq] at hx
    obtain ⟨rfl, -⟩ := hx
    have hbs : Rows.uptoBulkAll ((List.range len).map D) + Rows.uptoBulkAll ((List.range (m - len)).map fun j => D (len + j)) + 1 ≤ 1048576 := by
      unfold Rows.uptoBulk at hb
      exact hb
    have l1 := up_len ((List.range len).map D)
    rw [List.length_map, List.length_range] at l1
    have hk : ∀ i, ∃ z : Int, i < len → V i = .int .i64 z := by
      intro i
      by_cases hil : i < len
      · obtain ⟨k, e0, -, -⟩ := DataW.trod_int Try.underlying3 (hi i (by omega)).2
        injection e0 with e0
        exact ⟨k, fun _ => e0⟩
      · exact ⟨0, fun h => absurd h hil⟩
    obtain ⟨f, hfz⟩ := Classical.axiomOfChoice hk
    by_cases h0 : len = 0
    · subst h0
      exact ⟨_, 0, _, 0, 0, f, rfl, by omega, .inl rfl, fun h => absurd h (by decide), fun i hi => absurd hi (by omega)⟩
    · have hsp : a'.spot = none := by
        have c := (hi 0 (by omega)).1
        simpa [Addr.add] using World.cell?_spot c
      obtain ⟨b, off, spot⟩ := a'
      simp only at hsp
      subst hsp
      have ea : ∀ j, (⟨b, off, none⟩ : Addr).add j = ⟨b, off + j, none⟩ := by intro j; unfold Addr.add; split <;> simp_all
      have hlt : b < W.heap.size := by
        have c := (hi 0 (by omega)).1
        rw [ea] at c
        exact World.block_lt_of_cell? W _ c
      refine ⟨_, len, _, b, off, f, rfl, by omega, .inr rfl, fun _ => hlt, fun i hil => ?_⟩
      rw [← ea, ← hfz i hil]
      exact (hi i (by omega)).1

theorem copy_key {w : World} {R : Bl} {u : Value} {k : List Nat} (h : KeyAt w R u k) (hl : k.length ≤ 17592186044416) : Calls Try.prog 11 #[u] w fun e w' => ∃ v, e = .returned v ∧ KeyAt w' (fun _ => True) v k ∧ Below w.heap.size w w' := by
  have hlt := h.lt
  obtain ⟨a, b, off, cap, rfl, h1, h2⟩ := h
  refine (refcopy_any a b off cap k hl w (h1.imp_right fun h => h.1) h2).mono ?_
  rintro e w' ⟨v, rfl, h3, h4⟩
  exact ⟨v, rfl, h3.keyAt hlt (fun _ _ => trivial), h4⟩

theorem ePl_found {es : List Ent} {i : Nat} {e : Ent} (hs : Srt es) (he : es[i]? = some e) : ePl es e.1 = (i, true) := by
  have hi := (List.getElem?_eq_some_iff.1 he).1
  rw [ePl_at (i := i) (fun j hj x hx => ?_) (Nat.le_of_lt hi) (fun x hx => ?_), he]
  · simp [ob_self]
  · have hjl := (List.getElem?_eq_some_iff.1 hx)
    have hil := (List.getElem?_eq_some_iff.1 he)
    have := List.pairwise_iff_getElem.1 hs j i hjl.1 hil.1 hj
    rw [hjl.2, hil.2] at this
    exact this
  · rw [he] at hx; cases hx; exact klt_irr _
theorem eDel_ne {es : List Ent} {k : List Nat} {e : Ent} (hs : Srt es) (h : e ∈ eDel es k) : e.1 ≠ k := by
  rintro rfl
  have hm := eDel_mem h
  obtain ⟨i, hi⟩ := List.getElem?_of_mem hm
  have h1 := ePl_found hs hi
  unfold eDel at h
  rw [h1] at h
  simp only [if_true] at h
  have hj : ∃ j, es[j]? = some e ∧ j ≠ i := by
    rcases List.mem_append.1 h with h | h
    · obtain ⟨j, hj⟩ := List.getElem?_of_mem h
      have hjl := (List.getElem?_eq_some_iff.1 hj).1
      rw [List.length_take] at hjl
      rw [List.getElem?_take] at hj
      split at hj
      · exact ⟨j, hj, by omega⟩
      · cases hj
    · obtain ⟨j, hj⟩ := List.getElem?_of_mem h
      rw [List.getElem?_drop] at hj
      exact ⟨_, hj, by omega⟩
  obtain ⟨j, h2, h3⟩ := hj
  have h4 := ePl_found hs h2
  rw [h1] at h4
  injection h4 with h4
  exact h3 h4.symm
theorem eDel_len {es : List Ent} {k : List Nat} (h : (ePl es k).2 = true) : (eDel es k).length + 1 = es.length := by
  have h1 := (ePl_le es k).2 h
  unfold eDel
  rw [if_pos h, List.length_append, List.length_take, List.length_drop]
  omega
theorem ePut_len {es : List Ent} {k : List Nat} {id : Int} (h : (ePl es k).2 = false) : (ePut es k id).length = es.length + 1 := by
  have h1 := (ePl_le es k).1
  unfold ePut
  rw [if_neg (by rw [h]; decide), List.length_append, List.length_append, List.length_take, List.length_drop]
  simp
  omega

/-- a tree of the law's own: n entries, each with one of the keys from lo on -/
def FT (W w : World) (t lo m : Nat) (kf : Nat → List Nat) (n : Nat) : Prop := ∃ es, Tc W w t es (fun _ => False) ∧ (∀ e ∈ es, ∃ j, lo ≤ j ∧ j < m ∧ e.1 = kf j) ∧ es.length = n
theorem FT.below {W w w1 : World} {t lo m n : Nat} {kf : Nat → List Nat} (h : FT W w t lo m kf n) (hb : Below w.heap.size w w1) : FT W w1 t lo m kf n := by
  obtain ⟨es, h1, h2⟩ := h
  exact ⟨es, h1.below hb, h2⟩
theorem FT.bel {W w : World} {t lo m n : Nat} {kf : Nat → List Nat} (h : FT W w t lo m kf n) : Below W.heap.size W w := by
  obtain ⟨es, h1, h2⟩ := h
  exact h1.bel
theorem FT.done {W w : World} {t m n : Nat} {kf : Nat → List Nat} (h : FT W w t m m kf n) : n = 0 := by
  obtain ⟨es, h1, h2, rfl⟩ := h
  cases es with
  | nil => rfl
  | cons e r => obtain ⟨j, a, b, _⟩ := h2 e (List.mem_cons_self ..); omega
theorem ft_new (w : World) (m : Nat) (kf : Nat → List Nat) : Calls Try.prog 8 #[] w fun e w' => ∃ t, e = .returned (.pointer (some ⟨t, 0, none⟩)) ∧ FT w w' t 0 m kf 0 := by
  refine (tc_new w).mono ?_
  rintro e w' ⟨t, rfl, h1, h4⟩
  exact ⟨t, rfl, [], h1, fun e h => by simp at h, rfl⟩
theorem ft_put {W w : World} {t i m n : Nat} {kf : Nat → List Nat} (h : FT W w t 0 m kf n) (hi : i < m) (hn : n ≤ 134217728) {R : Bl} {u : Value} (hu : KeyAt w R u (kf i)) (id : Int) :
    Calls Try.prog 12 #[.pointer (some ⟨t, 0, none⟩), u, .int .i64 id] w fun e w' => (e = .returned (.bool true) ∧ FT W w' t 0 m kf (n + 1)) ∨ (e = .returned (.bool false) ∧ FT W w' t 0 m kf n) := by
  obtain ⟨es, h1, h2, rfl⟩ := h
  refine (tc_put h1 hn hu id).mono ?_
  rintro e w' ⟨rfl, h3, -⟩
  have hm : ∀ e ∈ ePut es (kf i) id, ∃ j, 0 ≤ j ∧ j < m ∧ e.1 = kf j := by
    intro e he
    rcases ePut_mem he with he | rfl
    · exact h2 e he
    · exact ⟨i, Nat.zero_le _, hi, rfl⟩
  cases hb : (ePl es (kf i)).2 with
  | false => exact .inl ⟨rfl, _, h3, hm, ePut_len hb⟩
  | true =>
    refine .inr ⟨rfl, _, h3, hm, ?_⟩
    unfold ePut
    rw [if_pos hb]
theorem ft_drop {W w : World} {t lo m n : Nat} {kf : Nat → List Nat} (h : FT W w t lo m kf n) (hn : n ≤ 134217728) {R : Bl} {u : Value} {k : List Nat} (hu : KeyAt w R u k) :
    Calls Try.prog 14 #[.pointer (some ⟨t, 0, none⟩), u] w fun e w' => (∃ n', n = n' + 1 ∧ e = .returned (.bool true) ∧ FT W w' t lo m kf n') ∨ (e = .returned (.bool false) ∧ FT W w' t lo m kf n) := by
  obtain ⟨es, h1, h2, rfl⟩ := h
  refine (tc_drop h1 hn hu).mono ?_
  rintro e w' ⟨rfl, h3, -⟩
  have hm : ∀ e ∈ eDel es k, ∃ j, lo ≤ j ∧ j < m ∧ e.1 = kf j := fun e he => h2 e (eDel_mem he)
  cases hb : (ePl es k).2 with
  | true => exact .inl ⟨(eDel es k).length, (eDel_len hb).symm, rfl, _, h3, hm, rfl⟩
  | false =>
    refine .inr ⟨rfl, _, h3, hm, ?_⟩
    unfold eDel
    rw [if_neg (by rw [hb]; decide)]
theorem ft_drop1 {W w : World} {t i m n : Nat} {kf : Nat → List Nat} (h : FT W w t i m kf n) (hn : n ≤ 134217728) {R : Bl} {u : Value} (hu : KeyAt w R u (kf i)) :
    Calls Try.prog 14 #[.pointer (some ⟨t, 0, none⟩), u] w fun e w' => ∃ b n', n' ≤ n ∧ e = .returned (.bool b) ∧ FT W w' t (i + 1) m kf n' := by
  obtain ⟨es, h1, h2, rfl⟩ := h
  have hs : Srt es := by obtain ⟨F, q, -⟩ := h1; exact q.srt
  refine (tc_drop h1 hn hu).mono ?_
  rintro e w' ⟨rfl, h3, -⟩
  have hl : (eDel es (kf i)).length ≤ es.length := by
    cases hb : (ePl es (kf i)).2 with
    | true => have := eDel_len hb; omega
    | false => unfold eDel; rw [if_neg (by rw [hb]; decide)]; exact Nat.le_refl _
  refine ⟨_, _, hl, rfl, _, h3, fun e he => ?_, rfl⟩
  obtain ⟨j, q1, q2, q3⟩ := h2 e (eDel_mem he)
  refine ⟨j, ?_, q2, q3⟩
  have hne := eDel_ne hs he
  rcases Nat.eq_or_lt_of_le q1 with rfl | q
  · exact absurd q3 hne
  · exact q
theorem ft_len {W w : World} {t lo m n : Nat} {kf : Nat → List Nat} (h : FT W w t lo m kf n) : Calls Try.prog 25 #[.pointer (some ⟨t, 0, none⟩)] w fun e w' => e = .returned (.int .i64 (n : Nat)) ∧ w = w' := by
  obtain ⟨es, h1, h2, rfl⟩ := h
  exact tc_len h1
theorem ft_ents {W w : World} {t lo m n : Nat} {kf : Nat → List Nat} (h : FT W w t lo m kf n) (hn : n ≤ 134217728) : Calls Try.prog 26 #[.pointer (some ⟨t, 0, none⟩)] w fun e w' => ∃ a c, e = .returned (.slice a n c) ∧ FT W w' t lo m kf n := by
  have hh := h
  obtain ⟨es, h1, h2, rfl⟩ := h
  refine (tc_ents h1 (by omega)).mono ?_
  rintro e w' ⟨v, L, rfl, hE⟩
  obtain ⟨a, n, c, rfl, rfl⟩ := ents_len hE
  exact ⟨a, c, rfl, hh.below (ents_bel hE)⟩
theorem ft_shape {W w : World} {t lo m n : Nat} {kf : Nat → List Nat} (h : FT W w t lo m kf n) (hn : n ≤ 134217728) : Calls Try.prog 24 #[.pointer (some ⟨t, 0, none⟩)] w fun e w' => ∃ v, e = .returned v ∧ FT W w' t lo m kf n ∧ (Calls Try.prog 23 #[v, .int .i64 (n : Nat)] w' fun e w2 => e = .returned (.bool true) ∧ w' = w2) := by
  have hh := h
  obtain ⟨es, h1, h2, rfl⟩ := h
  refine (tc_shape h1 hn).mono ?_
  rintro e w' ⟨g, cap, sh, rfl, h3, h4, h5⟩
  exact ⟨_, rfl, hh.below h5, refsound_any g 0 cap sh _ w' h3 h4⟩

end Go.Proofs.Ytncganfjbalkgaa
