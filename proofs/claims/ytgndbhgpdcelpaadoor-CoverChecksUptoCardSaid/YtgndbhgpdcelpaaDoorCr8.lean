/-
  The document's changes are the program's; both checks are one (pure).
  Conditions: none.
-/
import Derived.Test.YtgndbhgpdcelpaaDoorCr7
namespace Go.Proofs.YtgndbhgpdcelpaaDoor
set_option maxRecDepth 100000
open Go.RowKit Go.Joins Go.ChangeShapes Go.WideShapes
set_option linter.unusedVariables false
set_option linter.unusedSimpArgs false

theorem ok_iff (te : Bool) (q : List Ins) : okAll te q = true ↔ ∀ (k : Nat) (x : Ins), q[k]? = some x → okC te (q.take k) k x = true := by
  constructor
  · intro h k x hx
    cases c : okC te (q.take k) k x with
    | true => rfl
    | false => rw [ok_no hx c] at h; cases h
  · intro h
    exact ok_yes fun k x _ hx => h k x hx
theorem cn_pos {o : Int} {l : List Ins} {x : Ins} (hx : x ∈ l) (h : (x.op == o) = true) : 0 < cnL [o] l := by
  unfold cnL
  exact List.length_pos_of_mem (List.mem_filter.2 ⟨hx, by simpa using h⟩)
theorem cn_zero {o : Int} {l : List Ins} (h : ∀ x ∈ l, (x.op == o) = false) : cnL [o] l = 0 := by
  unfold cnL
  rw [List.length_eq_zero_iff, List.filter_eq_nil_iff]
  intro x hx
  have := h x hx
  simp only [List.any_cons, List.any_nil, Bool.or_false]
  rw [this]
  decide
theorem cn_take (ops : List Int) (q : List Ins) (k : Nat) : cnL ops (q.take k) ≤ cnL ops q := by
  unfold cnL
  exact List.Sublist.length_le (List.Sublist.filter _ (List.take_sublist k q))
theorem cn_uniq {o : Int} {q : List Ins} (h : cnL [o] q = 1) {i j : Nat} {x y : Ins} (hx : q[i]? = some x) (hxo : (x.op == o) = true) (hy : q[j]? = some y) (hyo : (y.op == o) = true) : i = j := by
  have key : ∀ {i j : Nat} {x y : Ins}, q[i]? = some x → (x.op == o) = true → q[j]? = some y → (y.op == o) = true → ¬ i < j := by
    intro i j x y hx hxo hy hyo hij
    have h1 : 0 < cnL [o] (q.take j) := cn_pos (x := x) (List.mem_of_getElem? (i := i) (by rw [List.getElem?_take, if_pos hij]; exact hx)) hxo
    have h2 := cn_take [o] q (j + 1)
    rw [take_snoc' hy, cn_snoc1, hyo] at h2
    simp only [if_true] at h2
    omega
  have a := key hx hxo hy hyo
  have b := key hy hyo hx hxo
  omega
theorem lastG_none {l : List Ins} (h : ∀ x ∈ l, (x.op == 9) = false) : lastG l = -1 := by
  unfold lastG
  have : (l.reverse.takeWhile fun x => !(x.op == 9)) = l.reverse := tw_all (p := fun x : Ins => x.op == 9) (q := l.reverse) (fun j x _ hx => h x (List.mem_reverse.1 (List.mem_of_getElem? hx)))
  rw [this, List.length_reverse]
  omega
/-- where the only guard stands -/
theorem lastG_one {q : List Ins} (h9 : cnL [9] q = 1) {t : Nat} {g : Ins} (hg : q[t]? = some g) (hgo : (g.op == 9) = true) : (∀ k, k ≤ t → lastG (q.take k) = -1 ∧ cnL [9] (q.take k) = 0) ∧ ∀ k, t < k → k ≤ q.length → lastG (q.take k) = t ∧ 0 < cnL [9] (q.take k) := by
  have htl := (List.getElem?_eq_some_iff.1 hg).1
  refine ⟨fun k hk => ?_, fun k hk hkl => ?_⟩
  · have hno : ∀ x ∈ q.take k, (x.op == 9) = false := fun x hx => by
      obtain ⟨i, hi⟩ := List.getElem?_of_mem hx
      rw [List.getElem?_take] at hi
      split at hi
      · cases c : x.op == 9 with
        | false => rfl
        | true => have := cn_uniq h9 hi c hg hgo; omega
      · cases hi
    exact ⟨lastG_none hno, cn_zero hno⟩
  · refine ⟨?_, cn_pos (x := g) (List.mem_of_getElem? (i := t) (by rw [List.getElem?_take, if_pos hk]; exact hg)) hgo⟩
    obtain ⟨d, rfl⟩ : ∃ d, k = t + 1 + d := ⟨k - (t + 1), by omega⟩
    clear hk
    induction d with
    | zero =>
      rw [Nat.add_zero, take_snoc' hg, lastG_snoc, hgo]
      simp only [if_true]
      rw [List.length_take, Nat.min_eq_left (by omega)]
    | succ d ih =>
      obtain ⟨x, hx⟩ := lt_some (l := q) (i := t + 1 + d) (by omega)
      rw [show t + 1 + (d + 1) = (t + 1 + d) + 1 by omega, take_snoc' hx, lastG_snoc]
      cases c : x.op == 9 with
      | true => have := cn_uniq h9 hx c hg hgo; omega
      | false =>
        simp only [Bool.false_eq_true, if_false]
        exact ih (by omega)
theorem cn_some {o : Int} {q : List Ins} (h : cnL [o] q = 1) : ∃ (i : Nat) (x : Ins), q[i]? = some x ∧ (x.op == o) = true := by
  unfold cnL at h
  obtain ⟨x, hx⟩ := List.exists_mem_of_length_pos (l := q.filter fun x => [o].any fun y => x.op == y) (by omega)
  rw [List.mem_filter] at hx
  obtain ⟨i, hi⟩ := List.getElem?_of_mem hx.1
  exact ⟨i, x, hi, by simpa using hx.2⟩
theorem cn2_zero {a b : Int} {l : List Ins} : (cnL [a, b] l == 0) = true ↔ ∀ x ∈ l, (x.op == a) = false ∧ (x.op == b) = false := by
  unfold cnL
  rw [beq_iff_eq, List.length_eq_zero_iff, List.filter_eq_nil_iff]
  simp
/-- changes that are guarded, told instruction by instruction -/
theorem gl_iff {q : List Ins} (h9 : cnL [9] q = 1) (h10 : cnL [10] q = 1) : okAll false q = true ↔ (hd10 (q.drop ((q.takeWhile fun x => !(x.op == 9)).length + 1)) && cnL [6, 7] (q.drop ((q.takeWhile fun x => !(x.op == 9)).length + 1)) == 0) = true := by
  obtain ⟨t, ht⟩ : ∃ t, (q.takeWhile fun x => !(x.op == 9)).length = t := ⟨_, rfl⟩
  rw [ht]
  obtain ⟨i9, x9, hi9, ho9⟩ := cn_some h9
  obtain ⟨g, hg⟩ : ∃ g, q[t]? = some g := by
    have := tw_stop (p := fun x : Ins => x.op == 9) (List.mem_of_getElem? hi9) ho9
    exact lt_some (by rw [← ht]; exact this)
  have hgo : (g.op == 9) = true := by
    have := tw_end (p := fun x : Ins => !(x.op == 9)) (q := q) (x := g) (by rw [ht]; exact hg)
    simpa using this
  obtain ⟨lo, hi⟩ := lastG_one h9 hg hgo
  obtain ⟨i10, x10, hi10, ho10⟩ := cn_some h10
  rw [ok_iff, Bool.and_eq_true, cn2_zero]
  constructor
  · intro h
    have hok := h i10 x10 hi10
    have hit : i10 = t + 1 := by
      unfold okC at hok
      have e6 : (x10.op == 6) = false := by rw [beq_iff_eq] at ho10; rw [ho10]; rfl
      have e7 : (x10.op == 7) = false := by rw [beq_iff_eq] at ho10; rw [ho10]; rfl
      rw [ho10, e6, e7] at hok
      simp only [Bool.false_and, Bool.not_false, Bool.true_and, Bool.or_self, Bool.and_true, Bool.not_eq_true', Bool.or_eq_false_iff, decide_eq_false_iff_not, bne_eq_false_iff_eq] at hok
      by_cases c : i10 ≤ t
      · have := (lo i10 c).1
        omega
      · have := (hi i10 (by omega) (Nat.le_of_lt (List.getElem?_eq_some_iff.1 hi10).1)).1
        omega
    refine ⟨?_, fun x hx => ?_⟩
    · have hB : (q.drop (t + 1))[0]? = some x10 := by rw [List.getElem?_drop, Nat.add_zero, ← hit]; exact hi10
      cases hb : q.drop (t + 1) with
      | nil => rw [hb] at hB; simp at hB
      | cons z r =>
        rw [hb] at hB
        simp at hB
        unfold hd10
        rw [hB]
        exact ho10
    · obtain ⟨j, hj⟩ := List.getElem?_of_mem hx
      rw [List.getElem?_drop] at hj
      have hok2 := h _ x hj
      have hp := (hi (t + 1 + j) (by omega) (Nat.le_of_lt (List.getElem?_eq_some_iff.1 hj).1)).2
      unfold okC at hok2
      rw [show decide (0 < cnL [9] (q.take (t + 1 + j))) = true by simp; omega] at hok2
      simp only [Bool.and_true, Bool.and_eq_true, Bool.not_eq_true', Bool.or_eq_false_iff] at hok2
      exact hok2.2
  · rintro ⟨hh, hn⟩ k x hx
    have h10t : ∃ z, q[t + 1]? = some z ∧ (z.op == 10) = true := by
      cases hb : q.drop (t + 1) with
      | nil => rw [hb] at hh; cases hh
      | cons z r =>
        rw [hb] at hh
        refine ⟨z, ?_, hh⟩
        have : (q.drop (t + 1))[0]? = some z := by rw [hb]; rfl
        rwa [List.getElem?_drop, Nat.add_zero] at this
    obtain ⟨z, hz, hzo⟩ := h10t
    have htl := (List.getElem?_eq_some_iff.1 hz).1
    unfold okC
    simp only [Bool.false_and, Bool.not_false, Bool.true_and, Bool.and_eq_true, Bool.not_eq_true']
    refine ⟨?_, ?_⟩
    · cases c : x.op == 10 with
      | false => rfl
      | true =>
        have := cn_uniq h10 hx c hz hzo
        subst this
        have := (hi (t + 1) (by omega) (by omega)).1
        rw [this]
        first | (simp; done) | (simp; omega)
    · by_cases c : k ≤ t
      · rw [(lo k c).2]
        simp
      · have hm : x ∈ q.drop (t + 1) := List.mem_of_getElem? (i := k - (t + 1)) (by rw [List.getElem?_drop, show t + 1 + (k - (t + 1)) = k by omega]; exact hx)
        obtain ⟨n6, n7⟩ := hn x hm
        rw [n6, n7]
        rfl
theorem ch_eq (tb : ByteArray) (q : List Ins) : chB tb q = cgB tb q := by
  unfold chB cgB
  cases te : tb.toList.isEmpty with
  | true =>
    simp only [Bool.true_or, Bool.and_true, if_true]
    rw [Bool.eq_iff_iff, ok_iff, beq_iff_eq]
    unfold cnL
    rw [List.length_eq_zero_iff, List.filter_eq_nil_iff]
    constructor
    · intro h x hx hb
      obtain ⟨k, hk⟩ := List.getElem?_of_mem hx
      have := h k x hk
      unfold okC at this
      simp only [Bool.true_and, Bool.and_eq_true, Bool.not_eq_true', Bool.or_eq_false_iff] at this
      obtain ⟨⟨⟨⟨⟨n6, n7⟩, n9⟩, n10⟩, -⟩, -⟩ := this
      simp only [List.any_cons, List.any_nil, n6, n7, n9, n10] at hb
      exact absurd hb (by decide)
    · intro h k x hx
      have := h x (List.mem_of_getElem? hx)
      simp only [List.any_cons, List.any_nil, Bool.or_false, Bool.not_eq_true, Bool.or_eq_false_iff] at this
      obtain ⟨n6, n7, n9, n10⟩ := this
      unfold okC
      rw [n6, n7, n9, n10]
      rfl
  | false =>
    simp only [Bool.false_or, Bool.false_eq_true, if_false]
    by_cases h9 : cnL [9] q = 1
    · by_cases h10 : cnL [10] q = 1
      · have hg := gl_iff h9 h10
        have : okAll false q = (hd10 (q.drop ((q.takeWhile fun x => !(x.op == 9)).length + 1)) && cnL [6, 7] (q.drop ((q.takeWhile fun x => !(x.op == 9)).length + 1)) == 0) := Bool.eq_iff_iff.2 hg
        unfold glB
        rw [this, h9, h10]
        simp only [show ((1 : Nat) == 1) = true from rfl, Bool.true_and]
        cases hd10 (q.drop ((q.takeWhile fun x => !(x.op == 9)).length + 1)) <;> cases (cnL [6, 7] (q.drop ((q.takeWhile fun x => !(x.op == 9)).length + 1)) == 0) <;> cases cvI (mdL tb q 0) 2 <;> cases pkB tb q <;> rfl
      · unfold glB
        rw [show (cnL [10] q == 1) = false by simpa using h10]
        simp
    · unfold glB
      rw [show (cnL [9] q == 1) = false by simpa using h9]
      simp
/-- both checks are one -/
theorem chk_eq (tb : ByteArray) (q : List Ins) : chkB tb q = ckB tb q := by
  have h1 : okAllK q = (q.all (wellB q.length) && fsB q && rdB q) := by
    rw [Bool.eq_iff_iff, okK_iff, Bool.and_eq_true, Bool.and_eq_true, List.all_eq_true, ← fs_iff]
    constructor
    · intro h
      have hr : ∀ x ∈ q, rtB q.length x = true ∧ rdR q x = true := fun x hx => by
        obtain ⟨k, hk⟩ := List.getElem?_of_mem hx
        have := h k x hk
        unfold okK at this
        simp only [Bool.and_eq_true] at this
        exact ⟨this.1.1, this.2⟩
      obtain ⟨hw, hd⟩ := (rd_iff q).1 hr
      refine ⟨⟨hw, fun k x hx => ?_⟩, hd⟩
      have := h k x hx
      unfold okK at this
      simp only [Bool.and_eq_true] at this
      exact this.1.2
    · rintro ⟨⟨hw, hf⟩, hd⟩ k x hx
      have := (rd_iff q).2 ⟨hw, hd⟩ x (List.mem_of_getElem? hx)
      unfold okK
      rw [this.1, this.2, hf k x hx]
      rfl
  unfold chkB ckB
  rw [h1, ch_eq]
  cases enB q <;> cases q.all (wellB q.length) <;> cases fsB q <;> cases rdB q <;> rfl

end Go.Proofs.YtgndbhgpdcelpaaDoor
