/-
  Texts of mine put together, in build order.
  Conditions: as each declaration says.
-/
import Derived.BigQuiet
import Derived.Test.YtmmchhlfbhbigaaDoorMg6
namespace Go.Proofs.YtmmchhlfbhbigaaDoor
set_option maxRecDepth 100000
open Go.RowKit Go.Joins Go.ChangeShapes Go.WideShapes
set_option linter.unusedVariables false
set_option linter.unusedSimpArgs false

theorem hp_found {es : List Ent} {i : Nat} {e : Ent} (hs : Srt es) (he : es[i]? = some e) : ePl es e.1 = (i, true) := by
  have hi := (List.getElem?_eq_some_iff.1 he).1
  rw [ePl_at (i := i) (fun j hj x hx => ?_) (Nat.le_of_lt hi) (fun x hx => ?_), he]
  · simp [ob_self]
  · have hjl := (List.getElem?_eq_some_iff.1 hx)
    have hil := (List.getElem?_eq_some_iff.1 he)
    have := List.pairwise_iff_getElem.1 hs j i hjl.1 hil.1 hj
    rw [hjl.2, hil.2] at this
    exact this
  · rw [he] at hx; cases hx; exact klt_irr _
theorem hp_keyed {l : List Ent} {k : List Nat} (h : (ePl l k).2 = true) : ∃ n, (k, n) ∈ l := by
  have h1 := (ePl_le l k).2 h
  have hx : l[(ePl l k).1]? = some l[(ePl l k).1] := List.getElem?_eq_getElem h1
  have h2 := ePl_hit hx
  rw [h] at h2
  have hm : l[(ePl l k).1] ∈ l := List.getElem_mem h1
  generalize l[(ePl l k).1] = x at h2 hm
  have h3 : x.1 = k := of_decide_eq_true h2.symm
  exact ⟨x.2, by rw [← h3]; exact hm⟩
theorem hp_put {l : List Ent} {k : List Nat} {id : Int} (h : (ePl l k).2 = false) (x : Ent) : x ∈ ePut l k id ↔ x = (k, id) ∨ x ∈ l := by
  constructor
  · intro hx
    rcases ePut_mem hx with q | q
    · exact .inr q
    · exact .inl q
  · unfold ePut
    rw [if_neg (by rw [h]; decide)]
    rintro (rfl | he)
    · simp
    · rw [← List.take_append_drop (ePl l k).1 l] at he
      rcases List.mem_append.1 he with q | q
      · exact List.mem_append_left _ (List.mem_append_left _ q)
      · exact List.mem_append_right _ q
theorem hp_putl {es : List Ent} {k : List Nat} {id : Int} (h : (ePl es k).2 = false) : (ePut es k id).length = es.length + 1 := by
  have h1 := (ePl_le es k).1
  unfold ePut
  rw [if_neg (by rw [h]; decide), List.length_append, List.length_append, List.length_take, List.length_drop]
  simp
  omega
theorem hp_del {l : List Ent} (hs : Srt l) {e : Ent} (he : e ∈ l) (x : Ent) : x ∈ eDel l e.1 ↔ x ∈ l ∧ x.1 ≠ e.1 := by
  obtain ⟨i, hi⟩ := List.getElem?_of_mem he
  have h1 := hp_found hs hi
  have hil := List.getElem?_eq_some_iff.1 hi
  unfold eDel
  rw [h1]
  simp only [if_true]
  constructor
  · intro h
    have hj : ∃ j, l[j]? = some x ∧ j ≠ i := by
      rcases List.mem_append.1 h with h | h
      · obtain ⟨j, hj⟩ := List.getElem?_of_mem h
        have hjl := (List.getElem?_eq_some_iff.1 hj).1
        rw [List.length_take] at hjl
        rw [List.getElem?_take] at hj
        split at hj
        · exact ⟨j, hj, by omega⟩
        · cases hj
      · obtain ⟨j, hj⟩ := List.getElem?_of_mem h
        rw [List.getElem?_drop] at hj
        exact ⟨_, hj, by omega⟩
    obtain ⟨j, h2, h3⟩ := hj
    refine ⟨List.mem_of_getElem? h2, fun e1 => ?_⟩
    have h4 := hp_found hs h2
    rw [e1, h1] at h4
    injection h4 with h4
    exact h3 h4.symm
  · rintro ⟨hx, hne⟩
    rw [← List.take_append_drop i l] at hx
    rcases List.mem_append.1 hx with q | q
    · exact List.mem_append_left _ q
    · rw [List.drop_eq_getElem_cons hil.1] at q
      rcases List.mem_cons.1 q with q | q
      · exfalso; apply hne; rw [q, hil.2]
      · exact List.mem_append_right _ q
theorem hp_dell {es : List Ent} {k : List Nat} (h : (ePl es k).2 = true) : (eDel es k).length + 1 = es.length := by
  have h1 := (ePl_le es k).2 h
  unfold eDel
  rw [if_pos h, List.length_append, List.length_take, List.length_drop]
  omega

/-- a row as the map keeps it -/
def kpv (row : List Nat) (k : Nat) : Value := .agg #[.string (strB row), .int .i64 ((k / 16 : Nat) : Int), .int .i64 ((k % 16 : Nat) : Int)]
structure HpRel (s : List Sl) (last : Int) (f : Int → Option Value) (es : List Ent) (n : Nat) : Prop where
  hf : ∀ id v, f id = some v ↔ ∃ (k : Nat) (row : List Nat), s[k]? = some (id, row) ∧ 0 < id ∧ v = kpv row k
  he : ∀ x, x ∈ es ↔ ∃ (k : Nat) (row : List Nat) (id : Int), s[k]? = some (id, row) ∧ 0 < id ∧ x = (kOf id, id)
  ids : ∀ (k : Nat) (id : Int) (row : List Nat), s[k]? = some (id, row) → 0 ≤ id ∧ id ≤ last
  uniq : ∀ (i j : Nat) (id : Int) (r r' : List Nat), s[i]? = some (id, r) → s[j]? = some (id, r') → 0 < id → i = j
  hn : n = hLen s
  len : es.length = n
  row : ∀ (k : Nat) (id : Int) (row : List Nat), s[k]? = some (id, row) → ∀ b ∈ row, b < 256
theorem hpRel_new : HpRel [] 0 (fun _ => none) [] 0 :=
  ⟨fun id v => by simp, fun x => by simp, fun k id row h => by simp at h, fun i j id r r' h => by simp at h, rfl, rfl, fun k id row h => by simp at h⟩
theorem hLen_app : ∀ (s r : List Sl), hLen (s ++ r) = hLen s + hLen r
  | [], r => by simp [hLen]
  | x :: s, r => by
    show (if 0 < x.1 then 1 else 0) + hLen (s ++ r) = (if 0 < x.1 then 1 else 0) + hLen s + hLen r
    rw [hLen_app s r]; omega
theorem hLen_set : ∀ (s : List Sl) (k : Nat) (x y : Sl), s[k]? = some x → hLen (s.set k y) + (if 0 < x.1 then 1 else 0) = hLen s + (if 0 < y.1 then 1 else 0)
  | [], k, x, y, h => by simp at h
  | z :: s, 0, x, y, h => by
    simp only [List.getElem?_cons_zero, Option.some.injEq] at h
    subst h
    show (if 0 < y.1 then 1 else 0) + hLen s + _ = (if 0 < z.1 then 1 else 0) + hLen s + _
    omega
  | z :: s, k + 1, x, y, h => by
    rw [List.getElem?_cons_succ] at h
    have := hLen_set s k x y h
    show (if 0 < z.1 then 1 else 0) + hLen (s.set k y) + _ = (if 0 < z.1 then 1 else 0) + hLen s + _
    omega
theorem hFree_le (s : List Sl) : hFreeN s 0 ≤ s.length := by
  obtain ⟨k, e, h, -⟩ := hFreeN_spec s 0
  omega
theorem hFree_zero {s : List Sl} {x : Sl} (h : s[hFreeN s 0]? = some x) : x.1 = 0 := by
  obtain ⟨k, e, hk, h3, -⟩ := hFreeN_spec s 0
  rw [e, Nat.zero_add] at h
  unfold occ at h3
  rw [List.getD_eq_getElem?_getD, h] at h3
  simpa using h3
theorem hLay_at (id : Int) (row : List Nat) (s : List Sl) (j : Nat) : (hLay id row s)[j]? = if j = hFreeN s 0 then some (id, row) else s[j]? := by
  unfold hLay
  have hle := hFree_le s
  split
  · next h =>
    rw [List.getElem?_set]
    by_cases c : hFreeN s 0 = j
    · rw [if_pos c, if_pos h, if_pos c.symm]
    · rw [if_neg c, if_neg (fun e => c e.symm)]
  · next h =>
    have e : hFreeN s 0 = s.length := by omega
    rw [e]
    by_cases c : j < s.length
    · rw [List.getElem?_append_left c, if_neg (by omega)]
    · rw [List.getElem?_append_right (by omega)]
      by_cases d : j = s.length
      · subst d; simp
      · rw [if_neg d, List.getElem?_eq_none (l := s) (by omega)]
        have : j - s.length = (j - s.length - 1) + 1 := by omega
        rw [this]; rfl
theorem hLay_len (id : Int) (row : List Nat) (s : List Sl) : (hLay id row s).length ≤ s.length + 1 ∧ s.length ≤ (hLay id row s).length := by
  unfold hLay
  split
  · rw [List.length_set]; omega
  · simp
theorem hLen_lay (id : Int) (row : List Nat) (s : List Sl) (h : 0 < id) : hLen (hLay id row s) = hLen s + 1 := by
  unfold hLay
  split
  · next c =>
    have hx : s[hFreeN s 0]? = some s[hFreeN s 0] := List.getElem?_eq_getElem c
    have := hLen_set s (hFreeN s 0) _ (id, row) hx
    rw [hFree_zero hx, if_neg (by omega), if_pos h] at this
    omega
  · rw [hLen_app]
    show hLen s + ((if 0 < id then 1 else 0) + 0) = _
    rw [if_pos h]
theorem hLen_le : ∀ (s : List Sl), hLen s ≤ s.length
  | [] => Nat.le_refl _
  | x :: r => by
    have := hLen_le r
    show (if 0 < x.1 then 1 else 0) + hLen r ≤ _
    simp only [List.length_cons]
    split <;> omega
theorem hFind_not {s : List Sl} {id : Int} (h : ∀ (k : Nat) (row : List Nat), s[k]? = some (id, row) → ¬ 0 < id) : hFind id s = -1 := by
  rcases hFind_at id s with e | ⟨k, x, h1, h2, h3, h4⟩
  · exact e
  · exact absurd h3 (h k x.2 (by rw [h1, ← h4]))

section
variable {s : List Sl} {last : Int} {f : Int → Option Value} {es : List Ent} {n : Nat}
theorem HpRel.find (h : HpRel s last f es n) {k : Nat} {id : Int} {row : List Nat} (hk : s[k]? = some (id, row)) (hi : 0 < id) : hFind id s = (k : Int) := by
  rcases hFind_at id s with e | ⟨j, x, h1, h2, h3, h4⟩
  · exfalso
    have : ∀ (s : List Sl) (i k : Nat), s[k]? = some (id, row) → hFindN id s i ≠ -1 := by
      intro s
      induction s with
      | nil => intro i k h; simp at h
      | cons x r ih =>
        intro i k h
        unfold hFindN
        split
        · omega
        · next c =>
          cases k with
          | zero => simp only [List.getElem?_cons_zero, Option.some.injEq] at h; exact absurd ⟨hi, by rw [h]⟩ c
          | succ k => exact ih (i + 1) k h
    exact this s 0 k hk e
  · have : s[j]? = some (id, x.2) := by rw [h1, ← h4]
    rw [h2, h.uniq j k id _ _ this hk hi]
/-- either no row has the number, or one slot has it -/
theorem HpRel.cases (h : HpRel s last f es n) (id : Int) : (f id = none ∧ hFind id s = -1 ∧ ∀ (k : Nat) (row : List Nat), s[k]? = some (id, row) → ¬ 0 < id) ∨ ∃ (k : Nat) (row : List Nat), s[k]? = some (id, row) ∧ 0 < id ∧ id ≤ last ∧ hFind id s = (k : Int) ∧ f id = some (kpv row k) := by
  cases e : f id with
  | none =>
    have hn : ∀ (k : Nat) (row : List Nat), s[k]? = some (id, row) → ¬ 0 < id := fun k row hk hi => by
      rw [(h.hf id (kpv row k)).2 ⟨k, row, hk, hi, rfl⟩] at e; cases e
    exact .inl ⟨rfl, hFind_not hn, hn⟩
  | some v =>
    obtain ⟨k, row, hk, hi, rfl⟩ := (h.hf id v).1 e
    exact .inr ⟨k, row, hk, hi, (h.ids k id row hk).2, h.find hk hi, rfl⟩
theorem HpRel.noKey (h : HpRel s last f es n) {id : Int} (hi : InI id) (hl : InI last) (hn : f id = none) : (ePl es (kOf id)).2 = false := by
  cases e : (ePl es (kOf id)).2 with
  | false => rfl
  | true =>
    exfalso
    obtain ⟨m, hm⟩ := hp_keyed e
    obtain ⟨k, row, id', hk, hp, he⟩ := (h.he _).1 hm
    have hb := h.ids k id' row hk
    injection he with e1 e2
    have : id = id' := kOf_inj hi (by unfold InI at hl ⊢; omega) e1
    subst this
    rw [(h.hf id _).2 ⟨k, row, hk, hp, rfl⟩] at hn
    cases hn
theorem HpRel.lay (h : HpRel s last f es n) {id last' : Int} {row : List Nat} (h1 : 0 < id) (h2 : id ≤ last') (h3 : last ≤ last') (h0 : 0 ≤ last) (hl : InI last') (hn : f id = none) (hr : ∀ b ∈ row, b < 256) :
    HpRel (hLay id row s) last' (fun k' => if k' = id then some (kpv row (hFreeN s 0)) else f k') (ePut es (kOf id) id) (n + 1) := by
  have hl0 : InI last := by unfold InI at hl ⊢; omega
  have hk := h.noKey (id := id) (by unfold InI at hl ⊢; omega) hl0 hn
  have hno : ∀ k row', s[k]? = some (id, row') → False := fun k row' hk' => by
    rw [(h.hf id _).2 ⟨k, row', hk', h1, rfl⟩] at hn; cases hn
  have hz : ∀ x, s[hFreeN s 0]? = some x → x.1 = 0 := fun x hx => hFree_zero hx
  refine ⟨fun id' v => ?_, fun x => ?_, fun k id' row' hk' => ?_, fun i j id' r r' hi hj hp => ?_, by rw [hLen_lay _ _ _ h1, h.hn], by rw [hp_putl hk, h.len], fun k id' row' hk' => ?_⟩
  · by_cases c : id' = id
    · subst c
      rw [if_pos rfl]
      constructor
      · intro e; injection e with e; subst e
        exact ⟨hFreeN s 0, row, by rw [hLay_at, if_pos rfl], h1, rfl⟩
      · rintro ⟨k, row', hk', -, rfl⟩
        rw [hLay_at] at hk'
        split at hk'
        · next d => injection hk' with hk'; injection hk' with _ hk'; subst d; subst hk'; rfl
        · exact (hno _ _ hk').elim
    · rw [if_neg c, h.hf]
      constructor
      · rintro ⟨k, row', hk', hp, rfl⟩
        refine ⟨k, row', ?_, hp, rfl⟩
        rw [hLay_at, if_neg (fun d => ?_)]
        · exact hk'
        · subst d; have := hz _ hk'; simp at this; omega
      · rintro ⟨k, row', hk', hp, rfl⟩
        rw [hLay_at] at hk'
        split at hk'
        · injection hk' with hk'; injection hk' with hk' _; exact absurd hk'.symm c
        · exact ⟨k, row', hk', hp, rfl⟩
  · rw [hp_put hk, h.he]
    constructor
    · rintro (rfl | ⟨k, row', id', hk', hp, rfl⟩)
      · exact ⟨hFreeN s 0, row, id, by rw [hLay_at, if_pos rfl], h1, rfl⟩
      · refine ⟨k, row', id', ?_, hp, rfl⟩
        rw [hLay_at, if_neg (fun d => ?_)]
        · exact hk'
        · subst d; have := hz _ hk'; simp at this; omega
    · rintro ⟨k, row', id', hk', hp, rfl⟩
      rw [hLay_at] at hk'
      split at hk'
      · injection hk' with hk'; injection hk' with hk' _; subst hk'; exact .inl rfl
      · exact .inr ⟨k, row', id', hk', hp, rfl⟩
  · rw [hLay_at] at hk'
    split at hk'
    · injection hk' with hk'; injection hk' with hk' _; subst hk'; omega
    · have := h.ids k id' row' hk'; omega
  · rw [hLay_at] at hi hj
    split at hi <;> split at hj
    · omega
    · injection hi with hi; injection hi with hi _; subst hi; exact (hno _ _ hj).elim
    · injection hj with hj; injection hj with hj _; subst hj; exact (hno _ _ hi).elim
    · exact h.uniq i j id' r r' hi hj hp
  · rw [hLay_at] at hk'
    split at hk'
    · injection hk' with hk'; injection hk' with _ hk'; subst hk'; exact hr
    · exact h.row k id' row' hk'
theorem HpRel.drop (h : HpRel s last f es n) (hs : Srt es) (hl : InI last) {k : Nat} {id : Int} {row : List Nat} (hk : s[k]? = some (id, row)) (h1 : 0 < id) :
    (ePl es (kOf id)).2 = true ∧ HpRel (s.set k (0, [])) last (fun k' => if k' = id then none else f k') (eDel es (kOf id)) (n - 1) := by
  have hm : ((kOf id, id) : Ent) ∈ es := (h.he _).2 ⟨k, row, id, hk, h1, rfl⟩
  have hkl : k < s.length := (List.getElem?_eq_some_iff.1 hk).1
  have hii : ∀ j id' row', s[j]? = some (id', row') → InI id' := fun j id' row' hj => by
    have := h.ids j id' row' hj; unfold InI at hl ⊢; omega
  have htr : (ePl es (kOf id)).2 = true := by
    obtain ⟨i, hi⟩ := List.getElem?_of_mem hm
    have := hp_found hs hi
    dsimp only at this
    rw [this]
  have hat : ∀ j, (s.set k (0, []))[j]? = if k = j then some (0, []) else s[j]? := fun j => by
    rw [List.getElem?_set]
    by_cases c : k = j
    · rw [if_pos c, if_pos c, if_pos hkl]
    · rw [if_neg c, if_neg c]
  refine ⟨htr, ⟨fun id' v => ?_, fun x => ?_, fun j id' row' hj => ?_, fun i j id' r r' hi hj hp => ?_, ?_, ?_, fun j id' row' hj => ?_⟩⟩
  · by_cases c : id' = id
    · subst c
      rw [if_pos rfl]
      constructor
      · intro e; cases e
      · rintro ⟨j, row', hj, hp, rfl⟩
        rw [hat] at hj
        split at hj
        · injection hj with hj; injection hj with hj _; omega
        · next d => exact absurd (h.uniq k j id' row row' hk hj h1) d
    · rw [if_neg c, h.hf]
      constructor
      · rintro ⟨j, row', hj, hp, rfl⟩
        refine ⟨j, row', ?_, hp, rfl⟩
        rw [hat, if_neg (fun d => ?_)]
        · exact hj
        · subst d; rw [hk] at hj; injection hj with hj; injection hj with hj _; exact c hj.symm
      · rintro ⟨j, row', hj, hp, rfl⟩
        rw [hat] at hj
        split at hj
        · injection hj with hj; injection hj with hj _; omega
        · exact ⟨j, row', hj, hp, rfl⟩
  · have := hp_del hs hm x
    dsimp only at this
    rw [this, h.he]
    constructor
    · rintro ⟨⟨j, row', id', hj, hp, rfl⟩, hne⟩
      refine ⟨j, row', id', ?_, hp, rfl⟩
      rw [hat, if_neg (fun d => ?_)]
      · exact hj
      · subst d; rw [hk] at hj; injection hj with hj; injection hj with hj _; subst hj; exact hne rfl
    · rintro ⟨j, row', id', hj, hp, rfl⟩
      rw [hat] at hj
      split at hj
      · injection hj with hj; injection hj with hj _; omega
      · next d =>
        refine ⟨⟨j, row', id', hj, hp, rfl⟩, fun e => d ?_⟩
        have := kOf_inj (hii j id' row' hj) (hii k id row hk) e
        subst this
        exact h.uniq k j id' row row' hk hj h1
  · rw [hat] at hj
    split at hj
    · injection hj with hj; injection hj with hj _; subst hj
      have := h.ids k id row hk; omega
    · exact h.ids j id' row' hj
  · rw [hat] at hi hj
    split at hi
    · injection hi with hi; injection hi with hi _; omega
    · split at hj
      · injection hj with hj; injection hj with hj _; omega
      · exact h.uniq i j id' r r' hi hj hp
  · have := hLen_set s k _ (0, []) hk
    rw [if_pos h1, if_neg (by simp)] at this
    rw [h.hn]; omega
  · have := hp_dell htr
    rw [h.len] at this
    omega
  · rw [hat] at hj
    split at hj
    · injection hj with hj; injection hj with _ hj; subst hj; intro b hb; cases hb
    · exact h.row j id' row' hj
theorem HpRel.set (h : HpRel s last f es n) {k : Nat} {id : Int} {row row1 : List Nat} (hk : s[k]? = some (id, row)) (h1 : 0 < id) (hr : ∀ b ∈ row1, b < 256) :
    HpRel (s.set k (id, row1)) last (fun k' => if k' = id then some (kpv row1 k) else f k') es n := by
  have hkl : k < s.length := (List.getElem?_eq_some_iff.1 hk).1
  have hat : ∀ j, (s.set k (id, row1))[j]? = if k = j then some (id, row1) else s[j]? := fun j => by
    rw [List.getElem?_set]
    by_cases c : k = j
    · rw [if_pos c, if_pos c, if_pos hkl]
    · rw [if_neg c, if_neg c]
  refine ⟨fun id' v => ?_, fun x => ?_, fun j id' row' hj => ?_, fun i j id' r r' hi hj hp => ?_, ?_, h.len, fun j id' row' hj => ?_⟩
  · by_cases c : id' = id
    · subst c
      rw [if_pos rfl]
      constructor
      · intro e; injection e with e; subst e
        exact ⟨k, row1, by rw [hat, if_pos rfl], h1, rfl⟩
      · rintro ⟨j, row', hj, hp, rfl⟩
        rw [hat] at hj
        split at hj
        · next d => injection hj with hj; injection hj with _ hj; subst d; subst hj; rfl
        · next d => exact absurd (h.uniq k j id' row row' hk hj h1) d
    · rw [if_neg c, h.hf]
      constructor
      · rintro ⟨j, row', hj, hp, rfl⟩
        refine ⟨j, row', ?_, hp, rfl⟩
        rw [hat, if_neg (fun d => ?_)]
        · exact hj
        · subst d; rw [hk] at hj; injection hj with hj; injection hj with hj _; exact c hj.symm
      · rintro ⟨j, row', hj, hp, rfl⟩
        rw [hat] at hj
        split at hj
        · injection hj with hj; injection hj with hj _; exact absurd hj.symm c
        · exact ⟨j, row', hj, hp, rfl⟩
  · rw [h.he]
    constructor
    · rintro ⟨j, row', id', hj, hp, rfl⟩
      by_cases d : k = j
      · subst d
        rw [hk] at hj; injection hj with hj; injection hj with hj _; subst hj
        exact ⟨k, row1, id, by rw [hat, if_pos rfl], h1, rfl⟩
      · exact ⟨j, row', id', by rw [hat, if_neg d]; exact hj, hp, rfl⟩
    · rintro ⟨j, row', id', hj, hp, rfl⟩
      rw [hat] at hj
      split at hj
      · injection hj with hj; injection hj with hj _; subst hj; exact ⟨k, row, id, hk, h1, rfl⟩
      · exact ⟨j, row', id', hj, hp, rfl⟩
  · rw [hat] at hj
    split at hj
    · injection hj with hj; injection hj with hj _; subst hj; exact h.ids k id row hk
    · exact h.ids j id' row' hj
  · rw [hat] at hi hj
    split at hi <;> split at hj
    · omega
    · next d _ => injection hi with hi; injection hi with hi _; subst hi; subst d; exact h.uniq k j id row r' hk hj hp
    · next _ d => injection hj with hj; injection hj with hj _; subst hj; subst d; exact h.uniq i k id r row hi hk hp
    · exact h.uniq i j id' r r' hi hj hp
  · have := hLen_set s k _ (id, row1) hk
    dsimp only at this
    rw [if_pos h1] at this
    rw [h.hn]; omega
  · rw [hat] at hj
    split at hj
    · injection hj with hj; injection hj with _ hj; subst hj; exact hr
    · exact h.row j id' row' hj
end

/-- the least number behind one -/
theorem hBeh_spec (id : Int) : ∀ (s : List Sl) (best : Int), (best = 0 ∨ (id < best ∧ 0 < best)) →
    ((hBeh id best s = best ∧ ∀ x ∈ s, id < x.1 → 0 < x.1 → best ≠ 0 ∧ best ≤ x.1) ∨ ((∃ x ∈ s, x.1 = hBeh id best s) ∧ id < hBeh id best s ∧ 0 < hBeh id best s ∧ (best ≠ 0 → hBeh id best s < best) ∧ ∀ x ∈ s, id < x.1 → 0 < x.1 → hBeh id best s ≤ x.1))
  | [], best, _ => .inl ⟨rfl, fun x hx => by cases hx⟩
  | y :: r, best, hb => by
    unfold hBeh
    by_cases c : id < y.1 ∧ 0 < y.1 ∧ (best = 0 ∨ y.1 < best)
    · rw [if_pos c]
      rcases hBeh_spec id r y.1 (.inr ⟨c.1, c.2.1⟩) with ⟨h1, h2⟩ | ⟨⟨x, hx, h1⟩, h2, h3, h4, h5⟩
      · rw [h1]
        refine .inr ⟨⟨y, List.mem_cons_self .., rfl⟩, c.1, c.2.1, fun hn => ?_, fun x hx g1 g2 => ?_⟩
        · rcases c.2.2 with q | q
          · exact absurd q hn
          · exact q
        · rcases List.mem_cons.1 hx with rfl | hx
          · omega
          · exact (h2 x hx g1 g2).2
      · have h4' := h4 (by omega)
        refine .inr ⟨⟨x, List.mem_cons_of_mem _ hx, h1⟩, h2, h3, fun hn => ?_, fun x' hx' g1 g2 => ?_⟩
        · rcases c.2.2 with q | q
          · exact absurd q hn
          · omega
        · rcases List.mem_cons.1 hx' with rfl | hx'
          · omega
          · exact h5 x' hx' g1 g2
    · rw [if_neg c]
      have hy : id < y.1 → 0 < y.1 → best ≠ 0 ∧ best ≤ y.1 := fun g1 g2 => by
        constructor
        · intro e; exact c ⟨g1, g2, .inl e⟩
        · rcases Int.lt_or_le y.1 best with q | q
          · exact absurd ⟨g1, g2, .inr q⟩ c
          · exact q
      rcases hBeh_spec id r best hb with ⟨h1, h2⟩ | ⟨⟨x, hx, h1⟩, h2, h3, h4, h5⟩
      · refine .inl ⟨h1, fun x hx g1 g2 => ?_⟩
        rcases List.mem_cons.1 hx with rfl | hx
        · exact hy g1 g2
        · exact h2 x hx g1 g2
      · refine .inr ⟨⟨x, List.mem_cons_of_mem _ hx, h1⟩, h2, h3, h4, fun x' hx' g1 g2 => ?_⟩
        rcases List.mem_cons.1 hx' with rfl | hx'
        · have a := hy g1 g2
          have := h4 a.1
          omega
        · exact h5 x' hx' g1 g2
/-- the first entry from a number on is the least number behind the one ahead of it -/
theorem HpRel.beh {s : List Sl} {last : Int} {f : Int → Option Value} {es : List Ent} {n : Nat} (h : HpRel s last f es n) (hs : Srt es) (hl : InI last) {id : Int} (hi : InI id) (hlt : id < last) :
    (es[(ePl es (kOf (id + 1))).1]? = none ∧ hBeh id 0 s = 0) ∨ ∃ x, es[(ePl es (kOf (id + 1))).1]? = some x ∧ x.2 = hBeh id 0 s ∧ id < x.2 ∧ 0 < x.2 ∧ x.2 ≤ last ∧ ∃ (k : Nat) (row : List Nat), s[k]? = some (x.2, row) := by
  have hi1 : InI (id + 1) := by unfold InI at hi hl ⊢; omega
  have hall : ∀ x ∈ s, 0 < x.1 → ((kOf x.1, x.1) : Ent) ∈ es ∧ InI x.1 ∧ x.1 ≤ last := fun x hx hp => by
    obtain ⟨k, hk⟩ := List.getElem?_of_mem hx
    have := h.ids k x.1 x.2 hk
    exact ⟨(h.he _).2 ⟨k, x.2, x.1, hk, hp, rfl⟩, by unfold InI at hl ⊢; omega, this.2⟩
  cases e : es[(ePl es (kOf (id + 1))).1]? with
  | none =>
    left
    refine ⟨rfl, ?_⟩
    obtain ⟨-, h2⟩ := ePl_all e
    rcases hBeh_spec id s 0 (.inl rfl) with ⟨h3, -⟩ | ⟨⟨x, hx, h3⟩, h4, h5, -, -⟩
    · exact h3
    · exfalso
      rw [← h3] at h4 h5
      obtain ⟨g1, g2, -⟩ := hall x hx h5
      have := (kOf_klt g2 hi1).1 (h2 _ g1)
      omega
  | some x =>
    right
    have hxm : x ∈ es := List.mem_of_getElem? e
    obtain ⟨k, row, m, hk, hp, rfl⟩ := (h.he x).1 hxm
    have hmi : InI m := by have := h.ids k m row hk; unfold InI at hl ⊢; omega
    have hge : id < m := by
      have h1 := (ePl_le es (kOf (id + 1))).1
      have h2 := ePlN_first (kOf (id + 1)) es 0
      have h3 := (h2.2.1 (kOf m, m) (by
        show es[(ePlN es (kOf (id + 1)) 0).1 - 0]? = _
        rw [Nat.sub_zero]; exact e)).1
      have h4 : ¬ m < id + 1 := fun q => h3 ((kOf_klt hmi hi1).2 q)
      omega
    refine ⟨_, rfl, ?_, hge, hp, (h.ids k m row hk).2, k, row, hk⟩
    show m = hBeh id 0 s
    have hmin : ∀ y ∈ s, id < y.1 → 0 < y.1 → m ≤ y.1 := fun y hy g1 g2 => by
      obtain ⟨q1, q2, -⟩ := hall y hy g2
      rcases Int.lt_or_le y.1 m with c | c
      · exfalso
        obtain ⟨j, hj⟩ := List.getElem?_of_mem q1
        have hjl := List.getElem?_eq_some_iff.1 hj
        have hil := List.getElem?_eq_some_iff.1 e
        have hkl := (kOf_klt q2 hmi).2 c
        rcases Nat.lt_trichotomy j (ePl es (kOf (id + 1))).1 with d | d | d
        · have hm : ((kOf y.1, y.1) : Ent) ∈ es.take (ePl es (kOf (id + 1))).1 :=
            List.mem_of_getElem? (i := j) (by rw [List.getElem?_take, if_pos d]; exact hj)
          have := ePl_take _ hm
          have := (kOf_klt q2 hi1).1 this
          omega
        · rw [d, e] at hj
          injection hj with hj; injection hj with _ hj; omega
        · have := List.pairwise_iff_getElem.1 hs _ j hil.1 hjl.1 d
          rw [hjl.2, hil.2] at this
          exact klt_irr _ (klt_trans hkl this)
      · exact c
    rcases hBeh_spec id s 0 (.inl rfl) with ⟨h3, h4⟩ | ⟨⟨y, hy, h3⟩, h4, h5, -, h6⟩
    · exact absurd rfl (h4 _ (List.mem_of_getElem? hk) hge hp).1
    · have a1 := h6 _ (List.mem_of_getElem? hk) hge hp
      rw [← h3] at h4 h5 a1 ⊢
      have a2 := hmin y hy h4 h5
      exact Int.le_antisymm a2 a1

end Go.Proofs.YtmmchhlfbhbigaaDoor

namespace Go.Proofs.YtmmchhlfbhbigaaDoor
set_option maxRecDepth 100000
open Go.RowKit Go.Joins Go.ChangeShapes Go.WideShapes
open Go.MapKept
set_option linter.unusedVariables false
set_option linter.unusedSimpArgs false

theorem ty_hu : (71 : TypeId) ≠ 84 := by decide
structure HpW (B : Nat) (w : World) (gh b t : Nat) (v : Value) (ps : List Nat) (o : Nat) (f : Int → Option Value) (n : Nat) (es : List Ent) (Ft : Bl) (last : Int) : Prop where
  hd : w.heap[gh]? = some (.cells #[.map (some b), .pointer (some ⟨t, 0, none⟩), v, .int .i64 (o : Nat), .int .i64 last] 71 (0, 0))
  mp : IMap (.int .i64) ik w b f n
  own : OwU w B v ps
  tr : TrX B w Ft t es
  d1 : ¬ Ft gh
  d2 : ¬ Ft b
  d3 : ∀ k, v.ownBlock = some k → ¬ Ft k
  bg : B ≤ gh
  bb : B ≤ b
  tab : TabT w
  tb : 2 < B
section
variable {B : Nat} {w : World} {gh b t : Nat} {v : Value} {ps : List Nat} {o : Nat} {f : Int → Option Value} {n : Nat} {es : List Ent} {Ft : Bl} {last : Int}
/-- its blocks -/
def Fh (gh b : Nat) (v : Value) (Ft : Bl) : Bl := fun k => k = gh ∨ k = b ∨ v.ownBlock = some k ∨ Ft k
theorem HpW.lg (h : HpW B w gh b t v ps o f n es Ft last) : gh < w.heap.size := (Array.getElem?_eq_some_iff.1 h.hd).1
theorem HpW.gb (h : HpW B w gh b t v ps o f n es Ft last) : gh ≠ b := by
  rintro rfl
  obtain ⟨e, c, h1, -⟩ := h.mp
  rw [h.hd] at h1
  injection h1 with h1
  cases h1
theorem HpW.vg (h : HpW B w gh b t v ps o f n es Ft last) : v.ownBlock ≠ some gh := own_ne h.own h.hd ty_hu
theorem HpW.vb (h : HpW B w gh b t v ps o f n es Ft last) : v.ownBlock ≠ some b := by
  intro hv
  obtain ⟨e, c, h1, -⟩ := h.mp
  rcases h.own.cases with ⟨rfl, -⟩ | ⟨g, cap, cur, rfl, hb, hg, -⟩
  · simp [Value.ownBlock] at hv
  · simp only [Value.ownBlock, Option.some.injEq] at hv
    subst hv
    rw [hg] at h1
    injection h1 with h1
    cases h1
theorem HpW.cells (h : HpW B w gh b t v ps o f n es Ft last) : w.cell? ⟨gh, 0, none⟩ = some (.map (some b)) ∧ w.cell? ⟨gh, 1, none⟩ = some (.pointer (some ⟨t, 0, none⟩)) ∧ w.cell? ⟨gh, 2, none⟩ = some v ∧ w.cell? ⟨gh, 3, none⟩ = some (.int .i64 (o : Nat)) ∧ w.cell? ⟨gh, 4, none⟩ = some (.int .i64 last) ∧
    ∀ i, w.frozen? ⟨gh, i, none⟩ = false :=
  ⟨by rw [cell_of_block h.hd]; rfl, by rw [cell_of_block h.hd]; rfl, by rw [cell_of_block h.hd]; rfl, by rw [cell_of_block h.hd]; rfl, by rw [cell_of_block h.hd]; rfl, fun i => unfrozen_of_block h.hd i⟩
theorem HpW.low (h : HpW B w gh b t v ps o f n es Ft last) : ∀ k, Fh gh b v Ft k → B ≤ k ∧ k < w.heap.size := by
  rintro k (rfl | rfl | hk | hk)
  · exact ⟨h.bg, h.lg⟩
  · exact ⟨h.bb, h.mp.lt⟩
  · rcases h.own.cases with ⟨rfl, -⟩ | ⟨g, cap, cur, rfl, hb, hg, -⟩
    · simp [Value.ownBlock] at hk
    · simp only [Value.ownBlock, Option.some.injEq] at hk
      subst hk
      exact ⟨hb, (Array.getElem?_eq_some_iff.1 hg).1⟩
  · exact h.tr.low k hk
theorem TabT.frm {w w1 : World} {F : Bl} (h : TabT w) (hf : Frm F w w1) (hd : ¬ F 2) : TabT w1 := ⟨Nat.lt_of_lt_of_le h.1 hf.size, fun i hi => (hf.cell h.1 hd i).trans (h.2 i hi)⟩
theorem HpW.step {w1 : World} {F : Bl} (h : HpW B w gh b t v ps o f n es Ft last) (hf : Frm F w w1) (hd : ∀ k, Fh gh b v Ft k → ¬ F k) (ht : ∀ k, F k → B ≤ k) : HpW B w1 gh b t v ps o f n es Ft last :=
  ⟨(hf.heap h.lg (hd _ (.inl rfl))).trans h.hd, h.mp.step hf (hd _ (.inr (.inl rfl))), hf.owU h.own (fun k hk => hd k (.inr (.inr (.inl hk)))), h.tr.step hf (fun k hk => hd k (.inr (.inr (.inr hk)))), h.d1, h.d2, h.d3, h.bg, h.bb, h.tab.frm hf (fun hc => by have := ht _ hc; have := h.tb; omega), h.tb⟩
theorem HpW.below {w1 : World} (h : HpW B w gh b t v ps o f n es Ft last) (hb : Below w.heap.size w w1) : HpW B w1 gh b t v ps o f n es Ft last :=
  h.step (F := fun _ => False) (Frm.of_below hb) (fun _ _ h => h) (fun _ h => h.elim)
theorem HpW.szB (h : HpW B w gh b t v ps o f n es Ft last) : B ≤ w.heap.size := Nat.le_trans h.bg (Nat.le_of_lt h.lg)
theorem setg_frm (w : World) (g i : Nat) (x : Value) : Frm (fun k => k = g) w (w.setCell ⟨g, i, none⟩ x) := Frm.set1 (F := fun k => k = g) w rfl i x
/-- a cell of the head written -/
theorem HpW.head {w1 : World} {x : Value} {o' : Nat} {l' : Int} {ps' : List Nat} (h : HpW B w gh b t v ps o f n es Ft last) (hf : Frm (fun k => k = gh) w w1)
    (hd : w1.heap[gh]? = some (.cells #[.map (some b), .pointer (some ⟨t, 0, none⟩), x, .int .i64 (o' : Nat), .int .i64 l'] 71 (0, 0))) (hx : OwU w1 B x ps') (h3 : ∀ k, x.ownBlock = some k → ¬ Ft k) :
    HpW B w1 gh b t x ps' o' f n es Ft l' :=
  ⟨hd, h.mp.step hf (fun e => h.gb e.symm), hx, h.tr.step hf (fun k hk e => h.d1 (by rw [← e]; exact hk)), h.d1, h.d2, h3, h.bg, h.bb, h.tab.frm hf (fun e => by have := h.tb; have := h.bg; omega), h.tb⟩
theorem HpW.setOpen (h : HpW B w gh b t v ps o f n es Ft last) (o' : Nat) (z : Int) (hz : z = (o' : Int)) : HpW B (w.setCell ⟨gh, 3, none⟩ (.int .i64 z)) gh b t v ps o' f n es Ft last := by
  subst hz
  exact h.head (setg_frm w gh 3 _) (by rw [block_setCell h.hd _]; rfl) ((setg_frm w gh 3 _).owU h.own (fun k hk e => h.vg (by rw [hk, e]))) h.d3
theorem HpW.setLast (h : HpW B w gh b t v ps o f n es Ft last) (l : Int) : HpW B (w.setCell ⟨gh, 4, none⟩ (.int .i64 l)) gh b t v ps o f n es Ft l :=
  h.head (setg_frm w gh 4 _) (by rw [block_setCell h.hd _]; rfl) ((setg_frm w gh 4 _).owU h.own (fun k hk e => h.vg (by rw [hk, e]))) h.d3
theorem HpW.cut (h : HpW B w gh b t v ps o f n es Ft last) (m : Nat) (hm : m ≤ ps.length) {g l cap : Nat} (hv : v = .slice (some ⟨g, 0, none⟩) l cap) : HpW B (w.setCell ⟨gh, 2, none⟩ (.slice (some ⟨g, 0, none⟩) m cap)) gh b t (.slice (some ⟨g, 0, none⟩) m cap) (ps.take m) o f n es Ft last := by
  subst hv
  refine h.head (setg_frm w gh 2 _) (by rw [block_setCell h.hd _]; rfl) ((setg_frm w gh 2 _).owU (h.own.cut m hm) (fun k hk e => h.vg ?_)) (fun k hk => h.d3 k ?_)
  · simp only [Value.ownBlock, Option.some.injEq] at hk ⊢; omega
  · simpa [Value.ownBlock] using hk
/-- the pages turned, where they lie -/
theorem HpW.page {g cap : Nat} (h : HpW B w gh b t (.slice (some ⟨g, 0, none⟩) ps.length cap) ps o f n es Ft last) (j x : Nat) :
    HpW B (w.setCell ⟨g, j, none⟩ (.int .u64 (x : Int))) gh b t (.slice (some ⟨g, 0, none⟩) ps.length cap) (ps.set j x) o f n es Ft last := by
  have hf := setg_frm w g j (.int .u64 (x : Int))
  have hng : gh ≠ g := fun e => h.vg (by simp [Value.ownBlock, e])
  have hnb : b ≠ g := fun e => h.vb (by simp [Value.ownBlock, e])
  have hgB : B ≤ g := (h.low g (.inr (.inr (.inl rfl)))).1
  exact ⟨(hf.heap h.lg hng).trans h.hd, h.mp.step hf hnb, h.own.set rfl j x, h.tr.step hf (fun k hk e => h.d3 g rfl (by rw [← e]; exact hk)), h.d1, h.d2, h.d3, h.bg, h.bb, h.tab.frm hf (fun e => by have := h.tb; omega), h.tb⟩
/-- the pages' row grown, wherever it lies then, and handed to the head -/
theorem HpW.grow {w1 : World} {v1 : Value} {ps1 : List Nat} (h : HpW B w gh b t v ps o f n es Ft last) (hg : w.grownBy w1 v.ownBlock) (hn : ∀ k, v1.ownBlock = some k → v.ownBlock = some k ∨ w.heap.size ≤ k) (ho : OwU w1 B v1 ps1) :
    HpW B (w1.setCell ⟨gh, 2, none⟩ v1) gh b t v1 ps1 o f n es Ft last := by
  have hf : Frm (fun k => v.ownBlock = some k) w w1 := Frm.grown (Frm.refl _ w) hg (fun k hk => .inl hk)
  have hd1 : w1.heap[gh]? = some (.cells #[.map (some b), .pointer (some ⟨t, 0, none⟩), v, .int .i64 (o : Nat), .int .i64 last] 71 (0, 0)) := (hf.heap h.lg h.vg).trans h.hd
  have hf2 := setg_frm w1 gh 2 v1
  have hff : Frm (fun k => k = gh ∨ v.ownBlock = some k) w (w1.setCell ⟨gh, 2, none⟩ v1) := (hf.mono (fun k hk => .inr hk)).trans hf2 (fun k hk => .inl (.inl hk))
  have hv1 : v1.ownBlock ≠ some gh := own_ne ho hd1 ty_hu
  refine ⟨by rw [block_setCell hd1 _]; rfl, h.mp.step hff ?_, hf2.owU ho (fun k hk e => hv1 (by rw [hk, e])), h.tr.step hff ?_, h.d1, h.d2, fun k hk ht => ?_, h.bg, h.bb, h.tab.frm hff ?_, h.tb⟩
  · rintro (e | e)
    · exact h.gb e.symm
    · exact h.vb e
  · rintro k hk (e | e)
    · exact h.d1 (by rw [← e]; exact hk)
    · exact h.d3 k e hk
  · rcases hn k hk with e | e
    · exact h.d3 k e ht
    · have := (h.tr.low k ht).2; omega
  · rintro (e | e)
    · have := h.tb; have := h.bg; omega
    · have := h.tb; have := (h.low _ (.inr (.inr (.inl e)))).1; omega
/-- the map turned -/
theorem HpW.map {w1 : World} {f1 : Int → Option Value} {n1 : Nat} (h : HpW B w gh b t v ps o f n es Ft last) (hm : IMap (.int .i64) ik w1 b f1 n1) (hg : w.grownBy w1 (some b)) : HpW B w1 gh b t v ps o f1 n1 es Ft last := by
  have hf : Frm (fun k => k = b) w w1 := Frm.grown (Frm.refl _ w) hg (fun k hk => by injection hk with hk; exact .inl hk.symm)
  exact ⟨(hf.heap h.lg h.gb).trans h.hd, hm, hf.owU h.own (fun k hk e => h.vb (by rw [hk, e])), h.tr.step hf (fun k hk e => h.d2 (by rw [← e]; exact hk)), h.d1, h.d2, h.d3, h.bg, h.bb, h.tab.frm hf (fun e => by have := h.tb; have := h.bb; omega), h.tb⟩
/-- the order turned -/
theorem HpW.order {w1 : World} {es1 : List Ent} {Ft1 : Bl} (h : HpW B w gh b t v ps o f n es Ft last) (hf : Frm Ft w w1) (hn : New w Ft Ft1) (ht : TrX B w1 Ft1 t es1) : HpW B w1 gh b t v ps o f n es1 Ft1 last := by
  refine ⟨(hf.heap h.lg h.d1).trans h.hd, h.mp.step hf h.d2, hf.owU h.own h.d3, ht, ?_, ?_, fun k hk hc => ?_, h.bg, h.bb, h.tab.frm hf (fun e => by have := h.tb; have := (h.tr.low _ e).1; omega), h.tb⟩
  · intro hc
    rcases hn _ hc with e | e
    · exact h.d1 e
    · have := h.lg; omega
  · intro hc
    rcases hn _ hc with e | e
    · exact h.d2 e
    · have := h.mp.lt; omega
  · rcases hn _ hc with e | e
    · exact h.d3 k hk e
    · have := (h.low k (.inr (.inr (.inl hk)))).2; omega
end

/-- the heap with its document's list of slots; F: its blocks -/
def HpX (B : Nat) (w : World) (F : Bl) (gh : Nat) (s : List Sl) (last : Int) : Prop :=
  ∃ b t v ps o f n es Ft, HpW B w gh b t v ps o f n es Ft last ∧ PgRel ps o s ∧ HpRel s last f es n ∧ 0 ≤ last ∧ F = Fh gh b v Ft
theorem HpX.step {B : Nat} {w w1 : World} {F F1 : Bl} {gh : Nat} {s : List Sl} {last : Int} (h : HpX B w F gh s last) (hf : Frm F1 w w1) (hd : ∀ k, F k → ¬ F1 k) (ht : ∀ k, F1 k → B ≤ k) : HpX B w1 F gh s last := by
  obtain ⟨b, t, v, ps, o, f, n, es, Ft, h1, h2, h3, h4, rfl⟩ := h
  exact ⟨b, t, v, ps, o, f, n, es, Ft, h1.step hf hd ht, h2, h3, h4, rfl⟩
theorem HpX.below {B : Nat} {w w1 : World} {F : Bl} {gh : Nat} {s : List Sl} {last : Int} (h : HpX B w F gh s last) (hb : Below w.heap.size w w1) : HpX B w1 F gh s last := by
  obtain ⟨b, t, v, ps, o, f, n, es, Ft, h1, h2, h3, h4, rfl⟩ := h
  exact ⟨b, t, v, ps, o, f, n, es, Ft, h1.below hb, h2, h3, h4, rfl⟩
theorem HpX.low {B : Nat} {w : World} {F : Bl} {gh : Nat} {s : List Sl} {last : Int} (h : HpX B w F gh s last) : ∀ k, F k → B ≤ k ∧ k < w.heap.size := by
  obtain ⟨b, t, v, ps, o, f, n, es, Ft, h1, h2, h3, h4, rfl⟩ := h
  exact h1.low
/-- there are no more pages than slots ask for -/
theorem PgRel.short {ps : List Nat} {o : Nat} {s : List Sl} (h : PgRel ps o s) : ps.length ≤ s.length / 16 + 1 := by
  by_cases c : 0 < ps.length
  · have hz := h.last c
    have : ∃ t, t < 16 ∧ (ps.getD (ps.length - 1) 0).testBit t = true := by
      apply Classical.byContradiction
      intro hn
      apply hz
      refine (zero_page (h.lt _)).mpr fun t ht => ?_
      cases e : (ps.getD (ps.length - 1) 0).testBit t
      · rfl
      · exact absurd ⟨t, ht, e⟩ hn
    obtain ⟨t, ht, e⟩ := this
    have hb := h.bit (16 * (ps.length - 1) + t)
    unfold bitAt at hb
    rw [show (16 * (ps.length - 1) + t) / 16 = ps.length - 1 by omega, show (16 * (ps.length - 1) + t) % 16 = t by omega, e] at hb
    have := occ_lt hb.symm
    omega
  · omega

end Go.Proofs.YtmmchhlfbhbigaaDoor

namespace Go.Proofs.YtmmchhlfbhbigaaDoor
set_option maxRecDepth 100000
open Go.RowKit Go.Joins Go.ChangeShapes Go.WideShapes
set_option linter.unusedVariables false

/-- a row of bytes within what came in: its value and bytes -/
theorem inner_bytes {H : Type} {enc : TypeId × Value → H} {W : World} {base fuel : Nat} {cs : List Value} {d : DataW H} {p : List MemPlace}
    (h : DataW.trod enc Tryd.prog W base (fun _ => true) true fuel 30 cs = some (d, p)) (hb : Rows.uptoBulk d ≤ 1048576) :
    ∃ (a : Option Addr) (l : List Nat) (cap b off : Nat), cs = [.slice a l.length cap] ∧ l.length ≤ cap ∧ cap ≤ 1048576 ∧ (l.length = 0 ∨ a = some ⟨b, off, none⟩) ∧ IsB W b off l ∧ ((a = none ∧ l.length = 0 ∧ cap = 0) ∨ ∃ ad, a = some ad ∧ (0 < l.length → ad = ⟨b, off, none⟩)) := by
  rcases Go.Deep.open_slice Tryd.underlying30 h with ⟨rfl, hx⟩ | ⟨a', len, m', m, n, D, Pl, rfl, hbb, hl, hm, hmm, hx, hi⟩
  · exact ⟨none, [], 0, 0, 0, rfl, Nat.le_refl _, by decide, .inl rfl, ⟨fun h => absurd h (by simp), fun i x hx => absurd hx (by simp), fun x hx => absurd hx (by simp)⟩, .inl ⟨rfl, rfl, rfl⟩⟩
  · simp only [if_true] at hmm
    subst hmm
    simp only [Prod.mk.injEq] at hx
    obtain ⟨rfl, -⟩ := hx
    have hbs : Rows.uptoBulkAll ((List.range len).map D) + Rows.uptoBulkAll ((List.range (m - len)).map fun j => D (len + j)) + 1 ≤ 1048576 := by
      unfold Rows.uptoBulk at hb
      exact hb
    have l1 := up_len ((List.range len).map D)
    have l2 := up_len ((List.range (m - len)).map fun j => D (len + j))
    rw [List.length_map, List.length_range] at l1 l2
    rw [cells_u8] at hi
    have hcell : ∀ i, i < len → ∃ t : Int, W.cell? (a'.add i) = some (.int .u8 t) ∧ 0 ≤ t ∧ t < 256 := by
      intro i hil
      obtain ⟨cs', hc, ht⟩ := hi i (by omega)
      obtain ⟨_, hcl, hat⟩ := World.cells?_some hc
      obtain ⟨k, e0, -, wk⟩ := DataW.trod_int Tryd.underlying5 ht
      subst e0
      have := hat 0 (by decide)
      have hw : 0 ≤ k ∧ k ≤ 255 := by simpa [Lit.wf, IntKind.min, IntKind.max, IntKind.signed, IntKind.bits] using wk
      exact ⟨k, by simpa [Addr.add] using this, by omega, by omega⟩
    by_cases h0 : len = 0
    · subst h0
      exact ⟨_, [], m, 0, 0, rfl, hl, by omega, .inl rfl, ⟨fun h => absurd h (by simp), fun i x hx => absurd hx (by simp), fun x hx => absurd hx (by simp)⟩, .inr ⟨_, rfl, fun h => absurd h (by simp)⟩⟩
    · have hsp : a'.spot = none := by
        obtain ⟨k, c, -⟩ := hcell 0 (by omega)
        simpa [Addr.add] using World.cell?_spot c
      obtain ⟨b, off, spot⟩ := a'
      simp only at hsp
      subst hsp
      have ea : ∀ j, (⟨b, off, none⟩ : Addr).add j = ⟨b, off + j, none⟩ := by intro j; unfold Addr.add; split <;> simp_all
      have hlt : b < W.heap.size := by
        obtain ⟨k, c, -⟩ := hcell 0 (by omega)
        rw [ea] at c
        exact World.block_lt_of_cell? W _ c
      obtain ⟨l, el⟩ : ∃ l, (List.range len).map (fun i => cNat (W.cell? ⟨b, off + i, none⟩)) = l := ⟨_, rfl⟩
      have hll : l.length = len := by rw [← el]; simp
      have hat : ∀ (i x : Nat), l[i]? = some x → W.cell? ⟨b, off + i, none⟩ = some (.int .u8 (x : Int)) ∧ x < 256 := by
        intro i x hx
        have hil : i < len := by rw [← hll]; exact (List.getElem?_eq_some_iff.1 hx).1
        rw [← el, List.getElem?_map, List.getElem?_range hil] at hx
        obtain ⟨t, c, t0, t1⟩ := hcell i hil
        rw [ea] at c
        simp only [Option.map_some, Option.some.injEq] at hx
        rw [c] at hx
        simp only [cNat] at hx
        rw [c]
        refine ⟨?_, by omega⟩
        congr 2
        omega
      refine ⟨some ⟨b, off, none⟩, l, m, b, off, by rw [hll], by omega, by omega, .inr rfl, ⟨fun _ => hlt, fun i x hx => (hat i x hx).1, fun x hx => ?_⟩, .inr ⟨_, rfl, fun _ => rfl⟩⟩
      obtain ⟨i, hi⟩ := List.getElem?_of_mem hx
      exact (hat i x hi).2

end Go.Proofs.YtmmchhlfbhbigaaDoor

namespace Go.Proofs.YtmmchhlfbhbigaaDoor
set_option maxRecDepth 100000
open Go.RowKit Go.Joins Go.ChangeShapes Go.WideShapes
set_option linter.unusedVariables false
set_option linter.unusedSimpArgs false

theorem cells_keyh : Tryd.prog.cellsOf 30 = 1 := by kernel_rfl
theorem cells_oph : Tryd.prog.cellsOf 32 = 3 := by kernel_rfl
/-- a list of calls in memory -/
structure OpsH (w : World) (b off n : Nat) (kd id : Nat → Int) (kf : Nat → List Nat) (kv : Nat → Value) : Prop where
  lt : 0 < n → b < w.heap.size
  c0 : ∀ i, i < n → w.cell? ⟨b, off + i * 3, none⟩ = some (.int .i64 (kd i))
  c1 : ∀ i, i < n → w.cell? ⟨b, off + i * 3 + 1, none⟩ = some (.int .i64 (id i))
  c2 : ∀ i, i < n → w.cell? ⟨b, off + i * 3 + 2, none⟩ = some (kv i)
  key : ∀ i, i < n → KeyAt w (fun _ => True) (kv i) (kf i)
  len : ∀ i, i < n → (kf i).length ≤ 1048576
theorem OpsH.below {w w1 : World} {b off n : Nat} {kd id : Nat → Int} {kf : Nat → List Nat} {kv : Nat → Value} (h : OpsH w b off n kd id kf kv) (hb : Below w.heap.size w w1) : OpsH w1 b off n kd id kf kv :=
  ⟨fun h0 => Nat.lt_of_lt_of_le (h.lt h0) hb.size, fun i hi => (hb.cell (h.lt (by omega))).trans (h.c0 i hi), fun i hi => (hb.cell (h.lt (by omega))).trans (h.c1 i hi), fun i hi => (hb.cell (h.lt (by omega))).trans (h.c2 i hi),
    fun i hi => (h.key i hi).step (Frm.of_below (F := fun _ => False) hb) (fun _ _ h => h), h.len⟩
set_option maxRecDepth 100000 in
theorem open_opsh {H : Type} {enc : TypeId × Value → H} {W : World} {base b0 : Nat} {r : Reach} {v : Value} {d : DataW H} {p : List MemPlace}
    (o : Value.okWide Tryd.prog W r b0 22 v) (h : DataW.Trod enc Tryd.prog W base (fun _ => true) true 22 v d p) (hb : Rows.uptoBulk d ≤ 1048576) :
    ∃ (a : Option Addr) (n cap b off : Nat) (kd id : Nat → Int) (kf : Nat → List Nat) (kv : Nat → Value), v = .slice a n cap ∧ n ≤ 1048576 ∧ (n = 0 ∨ a = some ⟨b, off, none⟩) ∧ OpsH W b off n kd id kf kv := by
  obtain ⟨a, len, cap, rfl⟩ := okWide_slice Tryd.underlying22 o
  obtain ⟨fuel, hf⟩ := h
  rcases Go.Deep.open_slice Tryd.underlying22 hf with ⟨hcs, hx⟩ | ⟨a', len', cap', m, n, D, Pl, hcs, hbb, hl, hm, hmm, hx, hi⟩
  · simp [Value.cells] at hcs
    obtain ⟨rfl, rfl, rfl⟩ := hcs
    exact ⟨none, 0, 0, 0, 0, fun _ => 0, fun _ => 0, fun _ => [], fun _ => .bool false, rfl, by decide, .inl rfl, ⟨fun h => absurd h (by decide), fun i hi => absurd hi (by omega), fun i hi => absurd hi (by omega), fun i hi => absurd hi (by omega), fun i hi => absurd hi (by omega), fun i hi => absurd hi (by omega)⟩⟩
  · simp [Value.cells] at hcs
    obtain ⟨rfl, rfl, rfl⟩ := hcs
    simp only [if_true] at hmm
    subst hmm
    simp only [Prod.mk.injEq] at hx
    obtain ⟨rfl, -⟩ := hx
    rw [cells_oph] at hi
    have hbs : Rows.uptoBulkAll ((List.range len).map D) + Rows.uptoBulkAll ((List.range (m - len)).map fun j => D (len + j)) + 1 ≤ 1048576 := by
      unfold Rows.uptoBulk at hb
      exact hb
    have l1 := up_len ((List.range len).map D)
    rw [List.length_map, List.length_range] at l1
    have hk : ∀ i, ∃ x : Int × Int × List Nat × Value, i < len → W.cell? (a'.add (i * 3)) = some (.int .i64 x.1) ∧ W.cell? ((a'.add (i * 3)).add 1) = some (.int .i64 x.2.1) ∧ W.cell? ((a'.add (i * 3)).add 2) = some x.2.2.2 ∧ KeyAt W (fun _ => True) x.2.2.2 x.2.2.1 ∧ x.2.2.1.length ≤ 1048576 := by
      intro i
      by_cases hil : i < len
      · have hD : Rows.uptoBulk (D i) ≤ 1048576 := by
          have := up_mem (d := D i) (l := (List.range len).map D) (List.mem_map.2 ⟨i, List.mem_range.2 hil, rfl⟩)
          omega
        obtain ⟨cs', hc, ht⟩ := hi i (by omega)
        obtain ⟨y0, y1, y2, n', hy, hlen, g0, g1, g2⟩ := Go.Deep.trod_struct3 Tryd.underlying32 ht
        rw [cells_oph] at hlen
        obtain ⟨_, hcl, hat⟩ := World.cells?_some hc
        match cs', hlen with
        | [q0, q1, q2], _ =>
          obtain ⟨k, e0, -, -⟩ := DataW.trod_int Tryd.underlying3 g0
          obtain ⟨z, e2, -, -⟩ := DataW.trod_int Tryd.underlying3 g1
          simp only [cells_int, cells_keyh] at e0 e2 g2
          have hd1 : Rows.uptoBulk y2.1 ≤ 1048576 := by
            have h1 := congrArg Prod.fst hy
            simp only at h1
            rw [h1] at hD
            simp only [Rows.uptoBulk, Rows.uptoBulkAll] at hD
            omega
          obtain ⟨a1, l, c1, b1, o1, e, h1, h2, h3, h4, -⟩ := inner_bytes g2 hd1
          simp at e0 e2 e
          subst e0 e2 e
          refine ⟨(k, z, l, _), fun _ => ⟨?_, hat 1 (by decide), hat 2 (by decide), ⟨a1, b1, o1, c1, rfl, h3.imp_right fun h => ⟨h, trivial⟩, h4⟩, by simp only; omega⟩⟩
          have := hat 0 (by decide)
          simpa [Addr.add] using this
      · exact ⟨(0, 0, [], .bool false), fun h => absurd h hil⟩
    obtain ⟨f, hf'⟩ := Classical.axiomOfChoice hk
    by_cases h0 : len = 0
    · subst h0
      exact ⟨_, 0, _, 0, 0, fun _ => 0, fun _ => 0, fun _ => [], fun _ => .bool false, rfl, by omega, .inl rfl, ⟨fun h => absurd h (by decide), fun i hi => absurd hi (by omega), fun i hi => absurd hi (by omega), fun i hi => absurd hi (by omega), fun i hi => absurd hi (by omega), fun i hi => absurd hi (by omega)⟩⟩
    · have hsp : a'.spot = none := by
        have c := (hf' 0 (by omega)).1
        simpa [Addr.add] using World.cell?_spot c
      obtain ⟨b, off, spot⟩ := a'
      simp only at hsp
      subst hsp
      have ea : ∀ j, (⟨b, off, none⟩ : Addr).add j = ⟨b, off + j, none⟩ := by intro j; unfold Addr.add; split <;> simp_all
      have hlt : b < W.heap.size := by
        have c := (hf' 0 (by omega)).1
        rw [ea] at c
        exact World.block_lt_of_cell? W _ c
      refine ⟨_, len, _, b, off, fun i => (f i).1, fun i => (f i).2.1, fun i => (f i).2.2.1, fun i => (f i).2.2.2, rfl, by omega, .inr rfl, ⟨fun _ => hlt, fun i hil => ?_, fun i hil => ?_, fun i hil => ?_, fun i hil => (hf' i hil).2.2.2.1, fun i hil => (hf' i hil).2.2.2.2⟩⟩
      · rw [← ea]
        exact (hf' i hil).1
      · have := (hf' i hil).2.1
        rw [Go.Deep.add_add, ea, ← Nat.add_assoc] at this
        exact this
      · have := (hf' i hil).2.2.1
        rw [Go.Deep.add_add, ea, ← Nat.add_assoc] at this
        exact this


theorem open_intsh {H : Type} {enc : TypeId × Value → H} {W : World} {base b0 : Nat} {r : Reach} {v : Value} {d : DataW H} {p : List MemPlace}
    (o : Value.okWide Tryd.prog W r b0 44 v) (h : DataW.Trod enc Tryd.prog W base (fun _ => true) true 44 v d p) (hb : Rows.uptoBulk d ≤ 1048576) :
    ∃ (a : Option Addr) (n cap b off : Nat) (f : Nat → Int), v = .slice a n cap ∧ n ≤ 1048576 ∧ (n = 0 ∨ a = some ⟨b, off, none⟩) ∧ (0 < n → b < W.heap.size) ∧ ∀ i, i < n → W.cell? ⟨b, off + i, none⟩ = some (.int .i64 (f i)) := by
  obtain ⟨a, len, cap, rfl⟩ := okWide_slice Tryd.underlying44 o
  obtain ⟨fuel, hf⟩ := h
  rcases Go.Deep.open_slice1 Tryd.underlying44 cells_int hf with ⟨hcs, hx⟩ | ⟨a', len', cap', m, n, V, D, Pl, hcs, hbb, hl, hm, hmm, hx, hi⟩
  · simp [Value.cells] at hcs
    obtain ⟨rfl, rfl, rfl⟩ := hcs
    exact ⟨none, 0, 0, 0, 0, fun _ => 0, rfl, by decide, .inl rfl, fun h => absurd h (by decide), fun i hi => absurd hi (by omega)⟩
  · simp [Value.cells] at hcs
    obtain ⟨rfl, rfl, rfl⟩ := hcs
    simp only [if_true] at hmm
    subst hmm
    simp only [Prod.mk.injEq] at hx
    obtain ⟨rfl, -⟩ := hx
    have hbs : Rows.uptoBulkAll ((List.range len).map D) + Rows.uptoBulkAll ((List.range (m - len)).map fun j => D (len + j)) + 1 ≤ 1048576 := by
      unfold Rows.uptoBulk at hb
      exact hb
    have l1 := up_len ((List.range len).map D)
    rw [List.length_map, List.length_range] at l1
    have hk : ∀ i, ∃ z : Int, i < len → V i = .int .i64 z := by
      intro i
      by_cases hil : i < len
      · obtain ⟨k, e0, -, -⟩ := DataW.trod_int Tryd.underlying3 (hi i (by omega)).2
        injection e0 with e0
        exact ⟨k, fun _ => e0⟩
      · exact ⟨0, fun h => absurd h hil⟩
    obtain ⟨f, hfz⟩ := Classical.axiomOfChoice hk
    by_cases h0 : len = 0
    · subst h0
      exact ⟨_, 0, _, 0, 0, f, rfl, by omega, .inl rfl, fun h => absurd h (by decide), fun i hi => absurd hi (by omega)⟩
    · have hsp : a'.spot = none := by
        have c := (hi 0 (by omega)).1
        simpa [Addr.add] using World.cell?_spot c
      obtain ⟨b, off, spot⟩ := a'
      simp only at hsp
      subst hsp
      have ea : ∀ j, (⟨b, off, none⟩ : Addr).add j = ⟨b, off + j, none⟩ := by intro j; unfold Addr.add; split <;> simp_all
      have hlt : b < W.heap.size := by
        have c := (hi 0 (by omega)).1
        rw [ea] at c
        exact World.block_lt_of_cell? W _ c
      refine ⟨_, len, _, b, off, f, rfl, by omega, .inr rfl, fun _ => hlt, fun i hil => ?_⟩
      rw [← ea, ← hfz i hil]
      exact (hi i (by omega)).1


/-! the slots by themselves -/
structure SlOk (s : List Sl) (last : Int) : Prop where
  ids : ∀ (k : Nat) (id : Int) (row : List Nat), s[k]? = some (id, row) → 0 ≤ id ∧ id ≤ last
  uniq : ∀ (i j : Nat) (id : Int) (r r' : List Nat), s[i]? = some (id, r) → s[j]? = some (id, r') → 0 < id → i = j
  row : ∀ (k : Nat) (id : Int) (row : List Nat), s[k]? = some (id, row) → ∀ b ∈ row, b < 256
theorem HpX.ok {B : Nat} {w : World} {F : Bl} {gh : Nat} {s : List Sl} {last : Int} (h : HpX B w F gh s last) : SlOk s last ∧ 0 ≤ last := by
  obtain ⟨b, t, v, ps, o, f, n, es, Ft, h1, h2, h3, h4, rfl⟩ := h
  exact ⟨⟨h3.ids, h3.uniq, h3.row⟩, h4⟩
/-- rows with a number up to one -/
def cle (a : Int) : List Sl → Nat
  | [] => 0
  | x :: r => (if 0 < x.1 ∧ x.1 ≤ a then 1 else 0) + cle a r
theorem cle_zero : ∀ (s : List Sl), cle 0 s = 0
  | [] => rfl
  | x :: r => by
    unfold cle
    rw [if_neg (by omega), cle_zero r]
theorem cle_le (a : Int) : ∀ (s : List Sl), cle a s ≤ hLen s
  | [] => Nat.le_refl _
  | x :: r => by
    have := cle_le a r
    unfold cle hLen
    split <;> split <;> omega
theorem cle_same {a b : Int} : ∀ (s : List Sl), (∀ x ∈ s, 0 < x.1 → (x.1 ≤ a ↔ x.1 ≤ b)) → cle a s = cle b s
  | [], _ => rfl
  | x :: r, h => by
    unfold cle
    rw [cle_same r (fun y hy => h y (List.mem_cons_of_mem _ hy))]
    congr 1
    have := h x (List.mem_cons_self ..)
    by_cases c : 0 < x.1
    · by_cases d : x.1 ≤ a
      · rw [if_pos ⟨c, d⟩, if_pos ⟨c, (this c).1 d⟩]
      · rw [if_neg (fun e => d e.2), if_neg (fun e => d ((this c).2 e.2))]
    · rw [if_neg (fun e => c e.1), if_neg (fun e => c e.1)]
theorem cle_at {id m : Int} (hm : 0 < m) (hi : id < m) : ∀ (s : List Sl) (k : Nat) (row : List Nat), s[k]? = some (m, row) → (∀ (j : Nat) (r : List Nat), s[j]? = some (m, r) → j = k) → (∀ x ∈ s, id < x.1 → 0 < x.1 → m ≤ x.1) → cle m s = cle id s + 1
  | [], k, row, h, _, _ => by simp at h
  | x :: r, 0, row, h, hu, hn => by
    simp only [List.getElem?_cons_zero, Option.some.injEq] at h
    unfold cle
    rw [h]
    dsimp only
    rw [if_pos ⟨hm, Int.le_refl _⟩, if_neg (by omega)]
    have : cle m r = cle id r := cle_same r (fun y hy hp => by
      constructor
      · intro hy'
        rcases Int.lt_or_le id y.1 with c | c
        · exfalso
          have h1 := hn y (List.mem_cons_of_mem _ hy) c hp
          obtain ⟨j, hj⟩ := List.getElem?_of_mem hy
          have : y = (m, y.2) := Prod.ext (Int.le_antisymm hy' h1) rfl
          have := hu (j + 1) y.2 (by rw [List.getElem?_cons_succ, hj, ← this])
          omega
        · exact c
      · intro h; omega)
    omega
  | x :: r, k + 1, row, h, hu, hn => by
    rw [List.getElem?_cons_succ] at h
    have ih := cle_at hm hi r k row h (fun j r' hj => by have := hu (j + 1) r' (by rw [List.getElem?_cons_succ]; exact hj); omega) (fun y hy => hn y (List.mem_cons_of_mem _ hy))
    unfold cle
    rw [ih]
    have hx : ¬ x.1 = m := fun e => by
      have := hu 0 x.2 (by rw [List.getElem?_cons_zero, ← e])
      omega
    have : (if 0 < x.1 ∧ x.1 ≤ m then 1 else 0) = (if 0 < x.1 ∧ x.1 ≤ id then 1 else 0) := by
      by_cases c : 0 < x.1
      · by_cases d : id < x.1
        · have := hn x (List.mem_cons_self ..) d c
          rw [if_neg (by omega), if_neg (by omega)]
        · rw [if_pos (by omega), if_pos (by omega)]
      · rw [if_neg (fun e => c e.1), if_neg (fun e => c e.1)]
    rw [this]; omega
/-- going behind a number meets one row more -/
theorem cle_next {s : List Sl} {last id : Int} (h : SlOk s last) (hb : 0 < hBeh id 0 s) : id < hBeh id 0 s ∧ hBeh id 0 s ≤ last ∧ cle (hBeh id 0 s) s = cle id s + 1 ∧ ∃ (k : Nat) (row : List Nat), s[k]? = some (hBeh id 0 s, row) ∧ hFind (hBeh id 0 s) s = (k : Int) := by
  rcases hBeh_spec id s 0 (.inl rfl) with ⟨h1, -⟩ | ⟨⟨x, hx, h1⟩, h2, h3, -, h5⟩
  · omega
  · obtain ⟨k, hk⟩ := List.getElem?_of_mem hx
    have hk' : s[k]? = some (hBeh id 0 s, x.2) := by rw [hk, ← h1]
    refine ⟨h2, (h.ids k _ _ hk').2, cle_at h3 h2 s k x.2 hk' (fun j r hj => h.uniq j k _ _ _ hj hk' h3) h5, k, x.2, hk', ?_⟩
    rcases hFind_at (hBeh id 0 s) s with e | ⟨j, y, g1, g2, g3, g4⟩
    · exfalso
      have : ∀ (s' : List Sl) (i k : Nat), s'[k]? = some (hBeh id 0 s, x.2) → hFindN (hBeh id 0 s) s' i ≠ -1 := by
        intro s'
        induction s' with
        | nil => intro i k h; simp at h
        | cons y r ih =>
          intro i k h
          unfold hFindN
          split
          · omega
          · next c =>
            cases k with
            | zero => simp only [List.getElem?_cons_zero, Option.some.injEq] at h; exact absurd ⟨h3, by rw [h]⟩ c
            | succ k => exact ih (i + 1) k h
      exact this s 0 k hk' e
    · have hj : s[j]? = some (hBeh id 0 s, y.2) := by rw [g1, ← g4]
      rw [g2, h.uniq j k _ _ _ hj hk' h3]
/-- with nothing behind, all were met -/
theorem cle_end {s : List Sl} {id : Int} (hb : ¬ 0 < hBeh id 0 s) : cle id s = hLen s := by
  have hall : ∀ x ∈ s, 0 < x.1 → x.1 ≤ id := fun x hx hp => by
    rcases hBeh_spec id s 0 (.inl rfl) with ⟨h1, h2⟩ | ⟨-, -, h3, -⟩
    · rcases Int.lt_or_le id x.1 with c | c
      · exact absurd rfl (h2 x hx c hp).1
      · exact c
    · exact absurd h3 hb
  clear hb
  induction s with
  | nil => rfl
  | cons x r ih =>
    unfold cle hLen
    rw [ih (fun y hy => hall y (List.mem_cons_of_mem _ hy))]
    have := hall x (List.mem_cons_self ..)
    by_cases c : 0 < x.1
    · rw [if_pos ⟨c, this c⟩, if_pos c]
    · rw [if_neg (fun e => c e.1), if_neg c]

/-- the heap of the law's own, from W's end on; the blocks of K are none of its own -/
def Hc (W w : World) (gh : Nat) (s : List Sl) (last : Int) (K : Bl) : Prop := ∃ F, HpX W.heap.size w F gh s last ∧ (∀ k, K k → ¬ F k ∧ k < w.heap.size) ∧ Below W.heap.size W w
def KeptH (K : Bl) (w w' : World) : Prop := w.heap.size ≤ w'.heap.size ∧ ∀ k, K k → w'.heap[k]? = w.heap[k]?
section
variable {W w w1 : World} {gh : Nat} {s : List Sl} {last : Int} {K K' : Bl}
theorem Hc.below (h : Hc W w gh s last K) (hb : Below w.heap.size w w1) : Hc W w1 gh s last K := by
  obtain ⟨F, h1, h2, h3⟩ := h
  exact ⟨F, h1.below hb, fun k hk => ⟨(h2 k hk).1, Nat.lt_of_lt_of_le (h2 k hk).2 hb.size⟩, stepB h3 hb⟩
theorem Hc.bel (h : Hc W w gh s last K) : Below W.heap.size W w := h.choose_spec.2.2
theorem Hc.ok (h : Hc W w gh s last K) : SlOk s last ∧ 0 ≤ last := h.choose_spec.1.ok
theorem Hc.mono (h : Hc W w gh s last K) (hk : ∀ k, K' k → K k) : Hc W w gh s last K' := by
  obtain ⟨F, h1, h2, h3⟩ := h
  exact ⟨F, h1, fun k hk' => h2 k (hk k hk'), h3⟩
/-- what is new is none of the heap's -/
theorem Hc.more (h : Hc W w gh s last K) (hb : Below w.heap.size w w1) (hk : ∀ k, K' k → K k ∨ (w.heap.size ≤ k ∧ k < w1.heap.size)) : Hc W w1 gh s last K' := by
  obtain ⟨F, h1, h2, h3⟩ := h
  refine ⟨F, h1.below hb, fun k hk' => ?_, stepB h3 hb⟩
  rcases hk k hk' with q | q
  · exact ⟨(h2 k q).1, Nat.lt_of_lt_of_le (h2 k q).2 hb.size⟩
  · exact ⟨fun e => by have := (h1.low k e).2; omega, q.2⟩
/-- writing into blocks of K -/
theorem Hc.write {F1 : Bl} (h : Hc W w gh s last K) (hf : Frm F1 w w1) (h1 : ∀ k, F1 k → K k ∧ W.heap.size ≤ k) : Hc W w1 gh s last K := by
  obtain ⟨F, q1, q2, q3⟩ := h
  exact ⟨F, q1.step hf (fun k hk e => (q2 k (h1 k e).1).1 hk) (fun k hk => (h1 k hk).2), fun k hk => ⟨(q2 k hk).1, Nat.lt_of_lt_of_le (q2 k hk).2 hf.size⟩, q3.trans (hf.below (fun k hk => (h1 k hk).2) q3.size)⟩
theorem hc_frm {s' : List Sl} {last' : Int} {F F' : Bl} (h2 : ∀ k, K k → ¬ F k ∧ k < w.heap.size) (h3 : Below W.heap.size W w) (h1 : HpX W.heap.size w F gh s last) (hf : Frm F w w1) (hn : New w F F') (ht : HpX W.heap.size w1 F' gh s' last') : Hc W w1 gh s' last' K ∧ KeptH K w w1 := by
  refine ⟨⟨F', ht, fun k hk => ⟨fun e => ?_, Nat.lt_of_lt_of_le (h2 k hk).2 hf.size⟩, h3.trans (hf.below (fun k hk => (h1.low k hk).1) h3.size)⟩, ⟨hf.size, fun k hk => hf.block k (h2 k hk).2 (h2 k hk).1⟩⟩
  rcases hn k e with q | q
  · exact (h2 k hk).1 q
  · have := (h2 k hk).2; omega
end

end Go.Proofs.YtmmchhlfbhbigaaDoor

namespace Go.Proofs.YtmmchhlfbhbigaaDoor
set_option maxRecDepth 100000
open Go.RowKit Go.Joins Go.ChangeShapes Go.WideShapes
open Go.MapKept
set_option linter.unusedVariables false
set_option linter.unusedSimpArgs false

theorem HpW.drew {B : Nat} {w : World} {gh b t : Nat} {v : Value} {ps : List Nat} {o : Nat} {f : Int → Option Value} {n : Nat} {es : List Ent} {Ft : Bl} {last : Int} (h : HpW B w gh b t v ps o f n es Ft last) : HpW B w.drew gh b t v ps o f n es Ft last := h.below ((Below.refl _ _).drew)
theorem HpW.drewN {B : Nat} {w : World} {gh b t : Nat} {v : Value} {ps : List Nat} {o : Nat} {f : Int → Option Value} {n : Nat} {es : List Ent} {Ft : Bl} {last : Int} (h : HpW B w gh b t v ps o f n es Ft last) (k : Nat) : HpW B (w.drewN k) gh b t v ps o f n es Ft last := h.below ⟨rfl, rfl, rfl, Nat.le_refl _, fun _ _ => rfl⟩
theorem Frm.drewN {F : Bl} {w w1 : World} (h : Frm F w w1) (k : Nat) : Frm F w (w1.drewN k) := h.step ⟨rfl, rfl, rfl, Nat.le_refl _, fun _ _ => rfl⟩
/-- what the head says is open -/
def hopen (w : World) (gh : Nat) : Nat := match w.cell? ⟨gh, 3, none⟩ with
  | some (.int _ z) => z.toNat
  | _ => 0
theorem HpW.hopen {B : Nat} {w : World} {gh b t : Nat} {v : Value} {ps : List Nat} {o : Nat} {f : Int → Option Value} {n : Nat} {es : List Ent} {Ft : Bl} {last : Int} (h : HpW B w gh b t v ps o f n es Ft last) : hopen w gh = o := by
  unfold Proofs.YtmmchhlfbhbigaaDoor.hopen
  rw [h.cells.2.2.2.1]
  simp
theorem getD_at {ps : List Nat} {j : Nat} (h : j < ps.length) : ps[j]? = some (ps.getD j 0) := by
  rw [List.getD_eq_getElem?_getD, List.getElem?_eq_getElem h]; rfl
theorem xor_page {p : Nat} (hp : p < 65536) : bits .xor .u64 (if IntKind.u64.signed = true then -1 else IntKind.u64.max) (p : Int) = ((notP p : Nat) : Int) := by
  show bits .xor .u64 (18446744073709551615 : Int) (p : Int) = _
  unfold bits
  simp only [BitVec.ofInt_natCast]
  have : (BitVec.ofInt 64 18446744073709551615 ^^^ BitVec.ofNat 64 p).toNat = notP p := by
    rw [show BitVec.ofInt 64 18446744073709551615 = BitVec.allOnes 64 from rfl, BitVec.allOnes_xor, BitVec.toNat_not, BitVec.toNat_ofNat, Nat.mod_eq_of_lt (by omega)]
    unfold notP
    omega
  refine Eq.trans (congrArg (fun n : Nat => IntKind.u64.wrap (n : Int)) this) ?_
  exact u64_id (notP_lt p)
/-- what take leaves -/
def TakeP (B : Nat) (w : World) (gh b t : Nat) (v : Value) (ps : List Nat) (f : Int → Option Value) (n : Nat) (es : List Ent) (Ft : Bl) (last : Int) (e : Ending) (w' : World) : Prop :=
  ∃ (o' : Nat) (v' : Value), e = .returned (.tuple #[.int .i64 (o' : Nat), .int .i64 (Lib.ctz 64 (notP (ps.getD o' 0)) : Nat)]) ∧ o' ≤ ps.length ∧ (∀ j, j < o' → ps.getD j 0 = 65535) ∧ ps.getD o' 0 ≠ 65535 ∧
    HpW B w' gh b t v' (takeP ps o' (Lib.ctz 64 (notP (ps.getD o' 0)))) o' f n es Ft last ∧ Frm (fun k => k = gh ∨ v.ownBlock = some k) w w' ∧ (∀ k, v'.ownBlock = some k → v.ownBlock = some k ∨ w.heap.size ≤ k)
theorem newsU (w : World) : ∀ j u, (ucells [0])[j]? = some u → (w.alloc (.cells #[.int .u64 0] 84)).cell? ((⟨w.heap.size, 0, none⟩ : Addr).add j) = some u :=
  World.news_of_block (cs := #[.int .u64 0]) (heap_alloc_new w _)
theorem HpW.grow_fz {B : Nat} {w w1 : World} {gh b t : Nat} {v : Value} {ps : List Nat} {o : Nat} {f : Int → Option Value} {n : Nat} {es : List Ent} {Ft : Bl} {last : Int} (h : HpW B w gh b t v ps o f n es Ft last) (hg : w.grownBy w1 v.ownBlock) (i : Nat) : w1.frozen? ⟨gh, i, none⟩ = false ∧ w1.cell? ⟨gh, 2, none⟩ = some v := by
  have hf : Frm (fun k => v.ownBlock = some k) w w1 := Frm.grown (Frm.refl _ w) hg (fun k hk => .inl hk)
  exact ⟨unfrozen_of_block ((hf.heap h.lg h.vg).trans h.hd) i, by rw [cell_of_block ((hf.heap h.lg h.vg).trans h.hd)]; rfl⟩
theorem OwU.app_form {w : World} {B m : Nat} {v : Value} {ps : List Nat} (h : OwU w B v (ps ++ [0])) (hm : ps.length = m) : ∃ g cap, v = .slice (some ⟨g, 0, none⟩) (m + 1) cap := by
  obtain ⟨g, cap, e, -⟩ := h.at (i := m) (p := 0) (by rw [← hm]; simp)
  refine ⟨g, cap, ?_⟩
  rw [e]; simp [hm]
theorem or_page' {p t : Nat} (hp : p < 65536) (ht : t < 16) : bits .or .u64 (p : Int) (IntKind.u64.wrap ((2 : Int) ^ t)) = ((setP p t : Nat) : Int) := by
  have h2 : 2 ^ t < 2 ^ 16 := Nat.pow_lt_pow_right (by omega) ht
  rw [show (2 : Int) ^ t = ((2 ^ t : Nat) : Int) by simp, u64_id (Nat.lt_trans h2 (by decide)), or_page hp ht]
theorem take_fin {B : Nat} {w : World} {gh b t : Nat} {v : Value} {ps : List Nat} {f : Int → Option Value} {n : Nat} {es : List Ent} {Ft : Bl} {last : Int} {P : Ending → World → Prop} (hP : TakeP B w gh b t v ps f n es Ft last = P)
    {w3 : World} {g cap j p x : Nat} {ps2 : List Nat} (H : HpW B w3 gh b t (.slice (some ⟨g, 0, none⟩) ps2.length cap) ps2 j f n es Ft last) (h2 : ps2 = if j < ps.length then ps else ps ++ [0]) (hle : j ≤ ps.length) (hf : ∀ i, i < j → ps.getD i 0 = 65535)
    (hp : ps.getD j 0 = p) (hn : ¬ p = 65535) (hlt : p < 65536) (hx : Lib.ctz 64 (notP p) = x) (hf3 : Frm (fun k => k = gh ∨ v.ownBlock = some k) w w3) (hnew : v.ownBlock = some g ∨ w.heap.size ≤ g) :
    P (.returned (.tuple #[.int .i64 (j : Nat), .int .i64 (x : Nat)])) (w3.setCell ⟨g, j, none⟩ (.int .u64 (bits .or .u64 (p : Int) (IntKind.u64.wrap ((2 : Int) ^ x))))).drew := by
  have ht : x < 16 := by rw [← hx]; exact (ctz_free hlt hn).1
  rw [or_page' hlt ht, ← hP]
  refine ⟨j, .slice (some ⟨g, 0, none⟩) ps2.length cap, by rw [hp, hx], hle, hf, by rw [hp]; exact hn, ?_, (hf3.setCell (F := fun k => k = gh ∨ v.ownBlock = some k) (hnew.imp (fun h => .inr h) id) j _).drew, fun k hk => ?_⟩
  · have := (H.page j (setP p x)).drew
    rw [hp, hx]
    unfold takeP
    rw [hp, ← h2]
    exact this
  · simp only [Value.ownBlock, Option.some.injEq] at hk
    subst hk
    exact hnew
set_option maxHeartbeats 4000000 in
theorem htake_any {B : Nat} {w : World} {gh b t : Nat} {v : Value} {ps : List Nat} {o : Nat} {f : Int → Option Value} {n : Nat} {es : List Ent} {Ft : Bl} {last : Int} {s : List Sl} (h : HpW B w gh b t v ps o f n es Ft last) (hp : PgRel ps o s) (hl : ps.length ≤ 268435457) :
    Calls Tryd.prog 64 #[.pointer (some ⟨gh, 0, none⟩)] w (TakeP B w gh b t v ps f n es Ft last) := by
  generalize hP : TakeP B w gh b t v ps f n es Ft last = P
  have HP := Lib.hid hP
  have HH := Lib.hid h
  have HR := Lib.hid hp
  obtain ⟨a, cap, rfl, -⟩ := h.own.form
  clear hP h hp
  obtain ⟨m, hm⟩ : ∃ m, ps.length = m := ⟨_, rfl⟩
  have HM := Lib.hid hm
  rw [hm] at HH hl HP
  clear hm
  go_enter Tryd.func64, Tryd.ntmps64
  go_wp2
  go_loopw [] (fun wr => ∃ j : Nat, j ≤ m ∧ HpW B wr gh b t (.slice a m cap) ps j f n es Ft last ∧ (∀ i, i < j → ps.getD i 0 = 65535) ∧ Frm (fun k => k = gh) w wr) (fun wr => m - hopen wr gh)
  case atStart => exact ⟨o, by have := HR.out.le; have := HM.out; omega, HH.out, HR.out.full, Frm.refl _ _⟩
  case round =>
    obtain ⟨j, hj, hH, hF, hR⟩ := hrel
    obtain ⟨c0, c1, c2, c3, c4, c5⟩ := hH.cells
    have z2 := c5 2
    have z3 := c5 3
    by_cases c : j < m
    · have hx := getD_at (ps := ps) (j := j) (by rw [HM.out]; exact c)
      obtain ⟨p, hpd⟩ : ∃ p, ps.getD j 0 = p := ⟨_, rfl⟩
      rw [hpd] at hx
      obtain ⟨g, cap', ev, e1, e2, d0, d1⟩ := hH.own.at hx
      injection ev with ev1 ev2 ev3
      subst ev1
      have HJ := Lib.hid hH
      have HF := Lib.hid hF
      have HRR := Lib.hid hR
      have HPD := Lib.hid hpd
      have q1 : decide ((j : Int) < (m : Int)) = true := by simpa using c
      clear hH hF hR hx e1 e2 ev2 ev3 c0 c1 c4 c5 hpd
      by_cases cf : p = 65535
      · have q2 : ((p : Int) == (65535 : Int)) = true := by simp [cf]
        go_upto_region 1 with fail
        go_quiet (fail)
        go_wp2_with fail
        have H1 := HJ.out.drewN nq
        have R1 := HRR.out.drewN nq
        have hn := (H1.setOpen (j + 1) ((j : Int) + 1) (by omega)).hopen
        have ho := HJ.out.hopen
        refine ⟨⟨j + 1, by omega, H1.setOpen (j + 1) _ (by omega), fun i hi => ?_, R1.setCell (.inl rfl) 3 _⟩, by rw [hn, ho]; omega⟩
        by_cases ci : i < j
        · exact HF.out i ci
        · have : i = j := by omega
          subst this
          rw [HPD.out]; exact cf
      · have q2 : ((p : Int) == (65535 : Int)) = false := by simp; omega
        go_upto_region 1 with fail
        go_quiet (fail)
        have H1 := HJ.out.drewN nq
        have R1 := HRR.out.drewN nq
        obtain ⟨w1, hw1⟩ : ∃ w1, wr.drewN nq = w1 := ⟨_, rfl⟩
        rw [hw1] at H1 R1 ⊢
        clear c2 c3 z2 z3 d0 d1 hw1
        have q3 : ((j : Int) == (m : Int)) = false := by simp; omega
        obtain ⟨-, -, c2, c3, -, c5⟩ := H1.cells
        have z2 := c5 2
        have z3 := c5 3
        have K1 := Lib.hid H1
        have L1 := Lib.hid R1
        clear H1 R1 c5
        go_upto_region 3 with fail
        go_quiet (fail)
        have H2 := K1.out.drewN nq
        have R2 := L1.out.drewN nq
        obtain ⟨w2, hw2⟩ : ∃ w2, w1.drewN nq = w2 := ⟨_, rfl⟩
        rw [hw2] at H2 R2 ⊢
        clear c2 c3 z2 z3 hw2 K1 L1 q1 q2 q3
        obtain ⟨-, -, c2, c3, -, c5⟩ := H2.cells
        obtain ⟨g', cap2, ev, e1, e2, d0, d1⟩ := H2.own.at (i := j) (p := p) (by rw [getD_at (by rw [HM.out]; exact c), HPD.out])
        injection ev with ev1 ev2 ev3
        injection ev1 with ev1
        injection ev1 with ev1
        subst ev1
        have z2 := c5 2
        have z3 := c5 3
        have d1j := d1 j
        have hlt : p < 65536 := by have := HR.out.lt j; rw [HPD.out] at this; exact this
        have hnp := xor_page hlt
        obtain ⟨t1, t2, t3⟩ := ctz_free hlt cf
        have HT0 := Lib.hid (fun k => (tz_any (notP p) (notP_lt p) (w2.drewN k) (H2.drewN k).tab).mono (fun e w' (h : e = .returned (.int .i64 (Lib.ctz 64 (notP p) : Nat)) ∧ w2.drewN k = w') => (⟨h.1, k, h.2.symm⟩ : e = .returned (.int .i64 (Lib.ctz 64 (notP p) : Nat)) ∧ ∃ m, w' = w2.drewN m)))
        obtain ⟨x, hx⟩ : ∃ x, Lib.ctz 64 (notP p) = x := ⟨_, rfl⟩
        rw [hx] at t1 HT0
        obtain ⟨q, hq⟩ : ∃ q, notP p = q := ⟨_, rfl⟩
        rw [hq] at HT0 hnp
        have HT := HT0
        have HQ := Lib.hid hq
        clear HT0 hq
        have HX := Lib.hid hx
        have K2 := Lib.hid H2
        have L2 := Lib.hid R2
        clear H2 R2 c5 e1 e2 ev2 ev3 t2 t3 hx d1
        go_upto_region 5 with fail
        go_quiet (first | (go_at_call 91; exact HT.out _))
        have H3 := K2.out.drewN nq
        have R3 := L2.out.drewN nq
        obtain ⟨w3, hw3⟩ : ∃ w3, w2.drewN nq = w3 := ⟨_, rfl⟩
        rw [hw3] at H3 R3 ⊢
        clear c2 c3 z2 z3 hw3 K2 L2 d0 d1j HT hnp
        obtain ⟨-, -, c2, c3, -, c5⟩ := H3.cells
        obtain ⟨g', cap2, ev, e1, e2, d0, d1⟩ := H3.own.at (i := j) (p := p) (by rw [getD_at (by rw [HM.out]; exact c), HPD.out])
        injection ev with ev1 ev2 ev3
        injection ev1 with ev1
        injection ev1 with ev1
        subst ev1
        have z2 := c5 2
        have z3 := c5 3
        have d1j := d1 j
        have hng : ¬ gh = g := fun e => H3.vg (by simp [Value.ownBlock, e])
        have hng' : ¬ g = gh := fun e => hng e.symm
        have HH3 := Lib.hid H3
        have RR3 := Lib.hid R3
        clear H3 R3 e1 e2 ev2 ev3 d1 c5
        have hor := or_page hlt t1
        go_upto_region 6 with fail
        go_region_with fail
        all_goals
          go_wp2_with fail
          exact take_fin HP.out (by have hz := HH3.out; rw [← HM.out] at hz; exact hz) (by rw [if_pos (by rw [HM.out]; exact c)]) (by rw [HM.out]; omega) HF.out HPD.out cf hlt HX.out (RR3.out.mono (fun k hk => .inl hk)) (.inl rfl)
    · obtain rfl : m = j := by omega
      have q1 : decide ((m : Int) < (m : Int)) = false := by simp
      have HJ := Lib.hid hH
      have HF := Lib.hid hF
      have HRR := Lib.hid hR
      clear hH hF hR c0 c1 c4 c5
      go_upto_region 1 with fail
      go_quiet (fail)
      have H1 := HJ.out.drewN nq
      have R1 := HRR.out.drewN nq
      obtain ⟨w1, hw1⟩ : ∃ w1, wr.drewN nq = w1 := ⟨_, rfl⟩
      rw [hw1] at H1 R1 ⊢
      clear c2 c3 z2 z3 hw1 q1
      have q3 : ((m : Int) == (m : Int)) = true := by simp
      obtain ⟨-, -, c2, c3, -, c5⟩ := H1.cells
      have z2 := c5 2
      have z3 := c5 3
      have K1 := Lib.hid H1
      have L1 := Lib.hid R1
      clear H1 R1 c5
      go_upto_region 3 with fail
      go_quiet (fail)
      have H2 := K1.out.drewN nq
      have R2 := L1.out.drewN nq
      obtain ⟨w2, hw2⟩ : ∃ w2, w1.drewN nq = w2 := ⟨_, rfl⟩
      rw [hw2] at H2 R2 ⊢
      clear c2 c3 z2 z3 hw2 K1 L1 q3
      obtain ⟨-, -, c2, c3, -, c5⟩ := H2.cells
      have z2 := c5 2
      have lg2 := H2.lg
      have K2 := Lib.hid H2
      have L2 := Lib.hid R2
      clear H2 R2 c5
      go_wp2_with (first | (at_builtin; refine wp_pushU rfl _ _ rfl B (.slice a m cap) ps rfl (K2.out.below ((Below.refl _ _).alloc (Nat.le_refl _) _)).own (K2.out.below ((Below.refl _ _).alloc (Nat.le_refl _) _)).szB ⟨w2.heap.size, 0, none⟩ 1 1 [0] rfl rfl (newsU w2) (by have := HM.out; omega) ?_; intro v1 w3 ho hg hnb; obtain ⟨g1, cap1, rfl⟩ := ho.app_form HM.out; have HG := Lib.hid ((K2.out.below ((Below.refl _ _).alloc (Nat.le_refl _) _)).grow hg hnb ho); obtain ⟨hz, hzc⟩ := (K2.out.below ((Below.refl _ _).alloc (Nat.le_refl _) (.cells #[.int .u64 0] 84))).grow_fz hg 2; have RG := Lib.hid (And.intro hg hnb); clear ho hg hnb))
      go_upto_region 5 with fail
      have H3 := HG.out
      have R3 := RG.out
      obtain ⟨w4, hw4⟩ : ∃ w4, w3.setCell ⟨gh, 2, none⟩ (.slice (some ⟨g1, 0, none⟩) (m + 1) cap1) = w4 := ⟨_, rfl⟩
      have R4 : Frm (fun k => k = gh ∨ (Value.slice a m cap).ownBlock = some k) w w4 := by
        rw [← hw4]
        refine Frm.setCell (F := fun k => k = gh ∨ (Value.slice a m cap).ownBlock = some k) (w := w) (w1 := w3) ?_ (.inl (.inl rfl)) 2 _
        exact Frm.grown ((L2.out.mono (fun k hk => .inl hk)).alloc _) R3.1 (fun k hk => .inl (.inr hk))
      have N4 : (Value.slice a m cap).ownBlock = some g1 ∨ w.heap.size ≤ g1 := by
        rcases R3.2 g1 rfl with q | q
        · exact .inl q
        · have := L2.out.size; simp at q; exact .inr (by omega)
      rw [hw4] at H3 ⊢
      clear hw4 HG RG R3 hz hzc c2 c3 z2 K2 L2 lg2 HJ HRR
      obtain ⟨p, hpd⟩ : ∃ p, ps.getD m 0 = p := ⟨_, rfl⟩
      have hp0 : p = 0 := by rw [← hpd, List.getD_eq_getElem?_getD, List.getElem?_eq_none (by rw [HM.out]; exact Nat.le_refl _)]; rfl
      have HPD := Lib.hid hpd
      have cf : ¬ p = 65535 := by omega
      have hm1 : ((ps ++ [0]).length) = m + 1 := by rw [List.length_append, HM.out]; rfl
      have hpm : (ps ++ [0])[m]? = some p := by rw [hp0, ← HM.out]; simp
      obtain ⟨-, -, c2, c3, -, c5⟩ := H3.cells
      obtain ⟨g', cap2, ev, e1, e2, d0, d1⟩ := H3.own.at hpm
      injection ev with ev1 ev2 ev3
      injection ev1 with ev1
      injection ev1 with ev1
      subst ev1
      have z2 := c5 2
      have z3 := c5 3
      have d1j := d1 m
      have hlt : p < 65536 := by omega
      have hnp := xor_page hlt
      obtain ⟨t1, t2, t3⟩ := ctz_free hlt cf
      have HT0 := Lib.hid (fun k => (tz_any (notP p) (notP_lt p) (w4.drewN k) (H3.drewN k).tab).mono (fun e w' (h : e = .returned (.int .i64 (Lib.ctz 64 (notP p) : Nat)) ∧ w4.drewN k = w') => (⟨h.1, k, h.2.symm⟩ : e = .returned (.int .i64 (Lib.ctz 64 (notP p) : Nat)) ∧ ∃ m, w' = w4.drewN m)))
      obtain ⟨x, hx⟩ : ∃ x, Lib.ctz 64 (notP p) = x := ⟨_, rfl⟩
      rw [hx] at t1 HT0
      obtain ⟨q, hq⟩ : ∃ q, notP p = q := ⟨_, rfl⟩
      rw [hq] at HT0 hnp
      have HT := HT0
      have HQ := Lib.hid hq
      clear HT0 hq
      have HX := Lib.hid hx
      have K3 := Lib.hid H3
      have R4H := Lib.hid R4
      have cm : (m : Int) < ((m + 1 : Nat) : Int) := by omega
      have cm' : (m : Int) < (m : Int) + 1 := by omega
      clear H3 R4 c5 e1 e2 ev2 ev3 t2 t3 hx d1 hpm hpd hp0
      go_quiet (first | (go_at_call 91; exact HT.out _))
      have H4 := K3.out.drewN nq
      have R5 := R4H.out.drewN nq
      obtain ⟨w5, hw5⟩ : ∃ w5, w4.drewN nq = w5 := ⟨_, rfl⟩
      rw [hw5] at H4 R5 ⊢
      clear c2 c3 z2 z3 hw5 K3 R4H d0 d1j HT hnp
      have hpm : (ps ++ [0])[m]? = some p := by
        have : p = 0 := by rw [← HPD.out, List.getD_eq_getElem?_getD, List.getElem?_eq_none (by rw [HM.out]; exact Nat.le_refl _)]; rfl
        rw [this, ← HM.out]; simp
      obtain ⟨-, -, c2, c3, -, c5⟩ := H4.cells
      obtain ⟨g', cap2, ev, e1, e2, d0, d1⟩ := H4.own.at hpm
      injection ev with ev1 ev2 ev3
      injection ev1 with ev1
      injection ev1 with ev1
      subst ev1
      have z2 := c5 2
      have z3 := c5 3
      have d1j := d1 m
      have hng : ¬ gh = g1 := fun e => H4.vg (by simp [Value.ownBlock, e])
      have hng' : ¬ g1 = gh := fun e => hng e.symm
      have HH4 := Lib.hid H4
      have RR5 := Lib.hid R5
      clear H4 R5 e1 e2 ev2 ev3 d1 c5 hpm
      go_upto_region 6 with fail
      go_region_with fail
      all_goals
        go_wp2_with fail
        exact take_fin HP.out (by have hz := HH4.out; rw [← hm1] at hz; exact hz) (by rw [if_neg (by rw [HM.out]; exact Nat.lt_irrefl _)]) (by rw [HM.out]; exact Nat.le_refl _) HF.out HPD.out cf hlt HX.out RR5.out N4

end Go.Proofs.YtmmchhlfbhbigaaDoor

namespace Go.Proofs.YtmmchhlfbhbigaaDoor
set_option maxRecDepth 100000
open Go.RowKit Go.Joins Go.ChangeShapes Go.WideShapes
open Go.MapKept
set_option linter.unusedVariables false
set_option linter.unusedSimpArgs false

theorem clr_page' {p t : Nat} (hp : p < 65536) (ht : t < 16) : bits .andNot .u64 (p : Int) (IntKind.u64.wrap ((2 : Int) ^ t)) = ((clrP p t : Nat) : Int) := by
  have h2 : 2 ^ t < 2 ^ 16 := Nat.pow_lt_pow_right (by omega) ht
  rw [show (2 : Int) ^ t = ((2 ^ t : Nat) : Int) by simp, u64_id (Nat.lt_trans h2 (by decide)), clr_page hp ht]
/-- what free leaves -/
def FreeP (B : Nat) (w : World) (gh b t : Nat) (v : Value) (s1 : List Sl) (f : Int → Option Value) (n : Nat) (es : List Ent) (Ft : Bl) (last : Int) (e : Ending) (w' : World) : Prop :=
  e = .returned (.tuple #[]) ∧ ∃ (o' : Nat) (v' : Value) (ps' : List Nat), PgRel ps' o' s1 ∧ HpW B w' gh b t v' ps' o' f n es Ft last ∧ Frm (fun k => k = gh ∨ v.ownBlock = some k) w w' ∧ v'.ownBlock = v.ownBlock
theorem free_fin {B : Nat} {w : World} {gh b t : Nat} {ps qs : List Nat} {o mo : Nat} {f : Int → Option Value} {n : Nat} {es : List Ent} {Ft : Bl} {last : Int} {s : List Sl} {k m g cap at' sl' p i : Nat} {P : Ending → World → Prop}
    (hP : FreeP B w gh b t (.slice (some ⟨g, 0, none⟩) ps.length cap) (s.set k (0, [])) f n es Ft last = P) (hp : PgRel ps o s) (hk : occ s k = true) (hqs : ps.set at' (clrP p sl') = qs) (hm : ps.length = m) (hat : k / 16 = at') (hsl : k % 16 = sl') (hpd : ps.getD at' 0 = p) (hmo : min o at' = mo) (hql : qs.length = m)
    {w2 : World} (H : HpW B w2 gh b t (.slice (some ⟨g, 0, none⟩) qs.length cap) qs mo f n es Ft last) (hf : Frm (fun k => k = gh ∨ (Value.slice (some ⟨g, 0, none⟩) m cap).ownBlock = some k) w w2) (hi : i ≤ m) (hz : ∀ j, i ≤ j → qs.getD j 0 = 0) (hl : 0 < i → qs.getD (i - 1) 0 ≠ 0) :
    P (.returned (.tuple #[])) (w2.setCell ⟨gh, 2, none⟩ (.slice (some ⟨g, 0, none⟩) i cap)) := by
  rw [← hP]
  obtain ⟨h1, h2⟩ := free_rel hp hk (qs := qs) (by rw [hat, hsl, hpd, hqs]) (n := i) (by omega) hz hl
  rw [hat, hmo] at h2
  exact ⟨rfl, mo, .slice (some ⟨g, 0, none⟩) i cap, qs.take i, h2, H.cut i (by omega) rfl, by rw [hm]; exact hf.setCell (F := fun k => k = gh ∨ (Value.slice (some ⟨g, 0, none⟩) m cap).ownBlock = some k) (.inl (.inl rfl)) 2 _, rfl⟩
set_option maxHeartbeats 4000000 in
theorem hfree_any {B : Nat} {w : World} {gh b t : Nat} {v : Value} {ps : List Nat} {o : Nat} {f : Int → Option Value} {n : Nat} {es : List Ent} {Ft : Bl} {last : Int} {s : List Sl} (h : HpW B w gh b t v ps o f n es Ft last) (hp : PgRel ps o s) (hl : ps.length ≤ 268435457)
    {k : Nat} (hk : occ s k = true) :
    Calls Tryd.prog 39 #[.pointer (some ⟨gh, 0, none⟩), .int .i64 ((k / 16 : Nat) : Int), .int .i64 ((k % 16 : Nat) : Int)] w (FreeP B w gh b t v (s.set k (0, [])) f n es Ft last) := by
  generalize hP : FreeP B w gh b t v (s.set k (0, [])) f n es Ft last = P
  have HP := Lib.hid hP
  have HR := Lib.hid hp
  obtain ⟨a, cap, rfl, -⟩ := h.own.form
  obtain ⟨m, hm⟩ : ∃ m, ps.length = m := ⟨_, rfl⟩
  have HM := Lib.hid hm
  have hat : k / 16 < m := by
    by_cases c : k / 16 < m
    · exact c
    · have := hp.bit k
      unfold bitAt at this
      rw [hk, List.getD_eq_getElem?_getD, List.getElem?_eq_none (by omega)] at this
      simp at this
  obtain ⟨c0, c1, c2, c3, c4, c5⟩ := h.cells
  obtain ⟨p, hpd⟩ : ∃ p, ps.getD (k / 16) 0 = p := ⟨_, rfl⟩
  have hx := getD_at (ps := ps) (j := k / 16) (by omega)
  rw [hpd] at hx
  obtain ⟨g, cap', ev, e1, e2, d0, d1⟩ := h.own.at hx
  injection ev with ev1 ev2 ev3
  subst ev1
  have z2 := c5 2
  have z3 := c5 3
  have HMC := Lib.hid (show m ≤ cap by omega)
  have HPD := Lib.hid hpd
  have HK := Lib.hid hk
  obtain ⟨at', hat'⟩ : ∃ x, k / 16 = x := ⟨_, rfl⟩
  obtain ⟨sl', hsl'⟩ : ∃ x, k % 16 = x := ⟨_, rfl⟩
  have hs16 : sl' < 16 := by omega
  have HAT := Lib.hid hat'
  have HSL := Lib.hid hsl'
  rw [hat'] at hat d0 HPD ⊢
  rw [hsl']
  have d1j := d1 at'
  have hlt : p < 65536 := by have := HR.out.lt (k / 16); rw [HAT.out, HPD.out] at this; exact this
  have hng : ¬ gh = g := fun e => h.vg (by simp [Value.ownBlock, e])
  have hng' : ¬ g = gh := fun e => hng e.symm
  rw [hm] at c2 hl
  have cat : (at' : Int) < (m : Int) := by omega
  have HH := Lib.hid h
  clear hP h hp hm hx hpd hk hat' hsl' e1 e2 ev2 ev3 d1 c5 c0 c1 c4
  go_enter Tryd.func39, Tryd.ntmps39
  go_upto_region 0 with fail
  go_region_with fail
  all_goals
    go_upto_region 1 with fail
    have H1 : HpW B (w.setCell ⟨g, at', none⟩ (.int .u64 (bits .andNot .u64 (p : Int) (IntKind.u64.wrap ((2 : Int) ^ sl'))))).drew gh b t (.slice (some ⟨g, 0, none⟩) ps.length cap) (ps.set at' (clrP p sl')) o f n es Ft last := by
      rw [clr_page' hlt hs16]
      have hz := HH.out
      exact (hz.page at' (clrP p sl')).drew
    have F1 : Frm (fun k => k = gh ∨ (Value.slice (some ⟨g, 0, none⟩) m cap).ownBlock = some k) w (w.setCell ⟨g, at', none⟩ (.int .u64 (bits .andNot .u64 (p : Int) (IntKind.u64.wrap ((2 : Int) ^ sl'))))).drew := ((Frm.refl _ w).setCell (F := fun k => k = gh ∨ (Value.slice (some ⟨g, 0, none⟩) m cap).ownBlock = some k) (.inl (.inr rfl)) at' _).drew
    obtain ⟨w1, hw1⟩ : ∃ w1, (w.setCell ⟨g, at', none⟩ (.int .u64 (bits .andNot .u64 (p : Int) (IntKind.u64.wrap ((2 : Int) ^ sl'))))).drew = w1 := ⟨_, rfl⟩
    rw [hw1] at H1 F1 ⊢
    obtain ⟨qs, hqs⟩ : ∃ qs, ps.set at' (clrP p sl') = qs := ⟨_, rfl⟩
    have hql : qs.length = m := by rw [← hqs, List.length_set, HM.out]
    rw [hqs, HM.out, ← hql] at H1
    have HQS := Lib.hid hqs
    have HQL := Lib.hid hql
    clear hw1 c2 c3 z2 z3 d0 d1j hqs
    obtain ⟨-, -, c2, c3, -, c5⟩ := H1.cells
    rw [hql] at c2
    have z2 := c5 2
    have z3 := c5 3
    have HH1 := Lib.hid H1
    have FF1 := Lib.hid F1
    clear H1 F1 c5 hql
    obtain ⟨mo, hmo⟩ : ∃ x, min o at' = x := ⟨_, rfl⟩
    obtain ⟨w2, hw2⟩ : ∃ w2, w1.setCell ⟨gh, 3, none⟩ (.int .i64 (mo : Int)) = w2 := ⟨_, rfl⟩
    have HA := Lib.hid (show o ≤ at' → w1.setCell ⟨gh, 3, none⟩ (.int .i64 (o : Int)) = w2 from fun q => by rw [← hw2, ← hmo, Nat.min_eq_left q])
    have HB := Lib.hid (show at' ≤ o → w1.setCell ⟨gh, 3, none⟩ (.int .i64 (at' : Int)) = w2 from fun q => by rw [← hw2, ← hmo, Nat.min_eq_right q])
    have HC := Lib.hid (show w1.setCell ⟨gh, 3, none⟩ (.int .i64 (if at' < o then (at' : Int) else (o : Int))) = w2 from by rw [← hw2, ← hmo]; congr 2; split <;> omega)
    have H2 := Lib.hid (show HpW B w2 gh b t (.slice (some ⟨g, 0, none⟩) qs.length cap) qs mo f n es Ft last by rw [← hw2]; exact HH1.out.setOpen mo _ rfl)
    have F2 := Lib.hid (show Frm (fun k => k = gh ∨ (Value.slice (some ⟨g, 0, none⟩) m cap).ownBlock = some k) w w2 by rw [← hw2]; exact FF1.out.setCell (F := fun k => k = gh ∨ (Value.slice (some ⟨g, 0, none⟩) m cap).ownBlock = some k) (.inl (.inl rfl)) 3 _)
    have HMO := Lib.hid hmo
    obtain ⟨-, -, y2, y3, -, y5⟩ := H2.out.cells
    rw [HQL.out] at y2
    have x2 := y5 2
    have x3 := y5 3
    clear hw2 hmo y5
    go_upto_region 2 with fail
  all_goals
    first | rw [HC.out] | rw [HA.out (by omega)] | rw [HB.out (by omega)]
    clear HA HB HC c2 c3 z2 z3 HH1 FF1
    go_wp2_with fail
    all_goals
      go_loopw [6] (fun i wr => ∃ k : Nat, k ≤ m ∧ i = .int .i64 k ∧ (∀ j, k ≤ j → qs.getD j 0 = 0) ∧ ∃ c, wr = w2.drewN c) (fun i _ => (intOf i).toNat)
      case atStart => exact ⟨m, Nat.le_refl _, rfl, fun j hj => by rw [List.getD_eq_getElem?_getD, List.getElem?_eq_none (by rw [HQL.out]; exact hj)]; rfl, 0, rfl⟩
      case round =>
        obtain ⟨i, hi, rfl, hz, cc, rfl⟩ := hrel
        have HZ := Lib.hid hz
        clear hz
        have hmc := HMC.out
        have hic : (i : Int) ≤ (cap : Int) := by omega
        have hic' : ¬ (cap : Int) < (i : Int) := by omega
        clear hmc
        by_cases c : 0 < i
        · obtain ⟨q, hq⟩ : ∃ q, qs.getD (i - 1) 0 = q := ⟨_, rfl⟩
          have hx := getD_at (ps := qs) (j := i - 1) (by rw [HQL.out]; omega)
          rw [hq] at hx
          obtain ⟨g', cap2, ev, e1, e2, d0, d1⟩ := H2.out.own.at hx
          injection ev with ev1 ev2 ev3
          injection ev1 with ev1
          injection ev1 with ev1
          subst ev1
          have d1j := d1 (i - 1)
          have q1 : decide ((0 : Int) < (i : Int)) = true := by simp; omega
          have w1' : IntKind.i64.wrap ((i : Int) - 1) = ((i - 1 : Nat) : Int) := by rw [IntKind.wrap_i64]; omega
          have hlm : ((i - 1 : Nat) : Int) < (m : Int) := by omega
          have HQ := Lib.hid hq
          clear hx e1 e2 ev2 ev3 d1 hq
          by_cases hz : q = 0
          · have q2 : ((q : Int) == (0 : Int)) = true := by simp [hz]
            go_wp2_with fail
            refine ⟨⟨i - 1, by omega, rfl, fun j hj => ?_, cc, rfl⟩, by simp [intOf]; omega⟩
            by_cases cj : i ≤ j
            · exact HZ.out j cj
            · have : j = i - 1 := by omega
              subst this
              rw [HQ.out]; exact hz
          · have q2 : ((q : Int) == (0 : Int)) = false := by simp; omega
            go_wp2_with fail
            refine bodyPost_ret (v := .tuple #[]) (by simp [results, Tryd.results39, go_sem]) rfl ?_
            have hz0 := H2.out.drewN cc
            have hf0 := F2.out.drewN cc
            exact free_fin HP.out HR.out HK.out HQS.out HM.out HAT.out HSL.out HPD.out HMO.out HQL.out hz0 hf0 hi HZ.out (fun _ => by rw [HQ.out]; exact hz)
        · obtain rfl : i = 0 := by omega
          have q1 : decide ((0 : Int) < ((0 : Nat) : Int)) = false := by simp
          go_wp2_with fail
          refine bodyPost_ret (v := .tuple #[]) (by simp [results, Tryd.results39, go_sem]) rfl ?_
          have hz0 := H2.out.drewN cc
          have hf0 := F2.out.drewN cc
          exact free_fin HP.out HR.out HK.out HQS.out HM.out HAT.out HSL.out HPD.out HMO.out HQL.out hz0 hf0 hi HZ.out (fun h0 => absurd h0 (Nat.lt_irrefl 0))

end Go.Proofs.YtmmchhlfbhbigaaDoor

namespace Go.Proofs.YtmmchhlfbhbigaaDoor
set_option maxRecDepth 100000
open Go.RowKit Go.Joins Go.ChangeShapes Go.WideShapes
open Go.MapKept
set_option linter.unusedVariables false
set_option linter.unusedSimpArgs false

set_option maxHeartbeats 1000000 in
theorem tnewB_any (B : Nat) (w : World) (hB : B ≤ w.heap.size) : Calls Tryd.prog 34 #[] w fun e w' => ∃ t F, e = .returned (.pointer (some ⟨t, 0, none⟩)) ∧ TrX B w' F t [] ∧ (∀ k, F k → w.heap.size ≤ k) ∧ Below w.heap.size w w' := by
  generalize hP : (fun (e : Ending) (w' : World) => ∃ t F, e = .returned (.pointer (some ⟨t, 0, none⟩)) ∧ TrX B w' F t [] ∧ (∀ k, F k → w.heap.size ≤ k) ∧ Below w.heap.size w w') = P
  have HP := Lib.hid hP
  clear hP
  go_enter Tryd.func34, Tryd.ntmps34
  go_wp2
  rw [← HP.out]
  have e1 : (w.alloc (.cells #[.slice none 0 0] 124)).heap.size = w.heap.size + 1 := by simp
  refine ⟨w.heap.size + 1, _, by first | rfl | simp, ⟨0, Fo w.heap.size (.slice none 0 0) (fun _ => False), w.heap.size, [], ?_, ⟨.slice none 0 0, fun _ => False, ⟨?_, OwP.nil _ _, hB⟩, ⟨rfl, by simp, rfl, List.Pairwise.nil, by simp⟩, fun k h => h.elim, rfl⟩, by simp, .inl rfl, ?_, by omega, rfl⟩, ?_, ?_⟩
  · rw [← e1]; exact heap_alloc_new _ _
  · rw [heap_alloc_old _ _ (by simp)]; exact heap_alloc_new w _
  · rintro (h | h | h)
    · omega
    · simp [Value.ownBlock] at h
    · exact h
  · rintro k (h | h | h | h)
    · omega
    · omega
    · simp [Value.ownBlock] at h
    · exact h.elim
  · exact ((Below.refl _ _).alloc (Nat.le_refl _) _).alloc (by simp) _
set_option maxHeartbeats 1000000 in
theorem hnew_any (w : World) (hT : TabT w) : Calls Tryd.prog 9 #[] w fun e w' => ∃ gh F, e = .returned (.pointer (some ⟨gh, 0, none⟩)) ∧ HpX w.heap.size w' F gh [] 0 ∧ Below w.heap.size w w' := by
  generalize hP : (fun (e : Ending) (w' : World) => ∃ gh F, e = .returned (.pointer (some ⟨gh, 0, none⟩)) ∧ HpX w.heap.size w' F gh [] 0 ∧ Below w.heap.size w w') = P
  have HP := Lib.hid hP
  have HT := Lib.hid hT
  clear hP hT
  have hmk : (Instr.makeMap 66 none).run Tryd.prog w = .ok (.map (some w.heap.size)) (w.alloc (.map #[] 0)) := rfl
  go_enter Tryd.func9, Tryd.ntmps9
  go_wp2_with fail
  refine (tnewB_any w.heap.size (w.alloc (.map #[] 0)) (by simp)).mono ?_
  rintro e w1 ⟨t, Ft, rfl, h1, h2, h3⟩
  have H1 := Lib.hid h1
  have H2 := Lib.hid h2
  have H3 := Lib.hid h3
  clear h1 h2 h3
  go_wp2_with fail
  rw [← HP.out]
  have b1 : Below w.heap.size w w1 := stepB ((Below.refl _ _).alloc (Nat.le_refl _) (.map #[] 0)) H3.out
  have hs1 : w.heap.size + 1 ≤ w1.heap.size := by have := H3.out.size; simpa using this
  have hm : w1.heap[w.heap.size]? = some (.map #[] 0) := (H3.out.block _ (by simp)).trans (heap_alloc_new w _)
  have b2 : Below w1.heap.size w1 (w1.alloc (.cells #[.map (some w.heap.size), .pointer (some ⟨t, 0, none⟩), .slice none 0 0, .int .i64 0, .int .i64 0] 71)) := (Below.refl _ _).alloc (Nat.le_refl _) _
  refine ⟨w1.heap.size, _, by first | rfl | simp, ⟨w.heap.size, t, .slice none 0 0, [], 0, _, 0, [], Ft, ⟨heap_alloc_new _ _, ?_, OwU.nil _ _, H1.out.below b2, fun h => ?_, fun h => ?_, fun k hk => by simp [Value.ownBlock] at hk, by omega, Nat.le_refl _, (HT.out.below b1).below b2, HT.out.1⟩, pgRel_new, hpRel_new, Int.le_refl _, rfl⟩, b1.alloc (by omega) _⟩
  · exact ⟨#[], 0, (b2.block _ (by omega)).trans hm, stamped_empty 0, by simp, by simp, rfl⟩
  · have := H1.out.low _ h; omega
  · have := H2.out _ h; simp at this; omega

set_option maxHeartbeats 1000000 in
theorem hlen_any {B : Nat} {w : World} {F : Bl} {gh : Nat} {s : List Sl} {last : Int} (h : HpX B w F gh s last) : Calls Tryd.prog 24 #[.pointer (some ⟨gh, 0, none⟩)] w fun e w' => e = .returned (.int .i64 (hLen s : Nat)) ∧ w = w' := by
  obtain ⟨b, t, v, ps, o, f, n, es, Ft, h1, h2, h3, h4, rfl⟩ := h
  obtain ⟨c0, -, -, -, -, c5⟩ := h1.cells
  have hm := h1.mp.len (P := Tryd.prog) (t := 66) (ty := 3) Tryd.underlying66
  rw [h3.hn] at hm
  clear h1 h2 h3 h4 c5
  go_enter Tryd.func24, Tryd.ntmps24
  go_wp2
  go_ret
  exact ⟨rfl, rfl⟩
set_option maxHeartbeats 1000000 in
theorem hlast_any {B : Nat} {w : World} {F : Bl} {gh : Nat} {s : List Sl} {last : Int} (h : HpX B w F gh s last) : Calls Tryd.prog 26 #[.pointer (some ⟨gh, 0, none⟩)] w fun e w' => e = .returned (.int .i64 last) ∧ w = w' := by
  obtain ⟨b, t, v, ps, o, f, n, es, Ft, h1, h2, h3, h4, rfl⟩ := h
  obtain ⟨-, -, -, -, c4, c5⟩ := h1.cells
  clear h1 h2 h3 h4 c5
  go_enter Tryd.func26, Tryd.ntmps26
  go_wp2
  go_ret
  exact ⟨rfl, rfl⟩

def kz : Value := .agg #[.string ⟨#[]⟩, .int .i64 0, .int .i64 0]
theorem kz_run (w : World) : (zeroValue 74).run Tryd.prog w = .ok kz w := rfl
def GetH (w : World) (s : List Sl) (id : Int) (e : Ending) (w' : World) : Prop :=
  Below w.heap.size w w' ∧ ((hFind id s = -1 ∧ e = .returned (.tuple #[.slice none 0 0, .bool false])) ∨ ∃ (k : Nat) (row : List Nat) (v : Value), s[k]? = some (id, row) ∧ 0 < id ∧ hFind id s = (k : Int) ∧ OwK w' w.heap.size v row ∧ e = .returned (.tuple #[v, .bool true]))
set_option maxHeartbeats 1000000 in
theorem hget_any {B : Nat} {w : World} {F : Bl} {gh : Nat} {s : List Sl} {last : Int} (h : HpX B w F gh s last) (id : Int) : Calls Tryd.prog 22 #[.pointer (some ⟨gh, 0, none⟩), .int .i64 id] w (GetH w s id) := by
  generalize hP : GetH w s id = P
  have HP := Lib.hid hP
  clear hP
  obtain ⟨b, t, v, ps, o, f, n, es, Ft, h1, h2, h3, h4, rfl⟩ := h
  obtain ⟨c0, -, -, -, -, c5⟩ := h1.cells
  have HM := Lib.hid h1.mp
  rcases h3.cases id with ⟨q1, q2, -⟩ | ⟨k, row, q1, q2, q3, q4, q5⟩
  · have Q := Lib.hid q2
    clear h1 h2 h3 h4 c5 q2
    go_enter Tryd.func22, Tryd.ntmps22
    go_wp2_with (first | (at_lookup; refine wp_look _ rfl _ _ 66 true rfl 3 74 Tryd.underlying66 Tryd.underlying3 ik_key kz kz_run rfl HM.out id rfl ?_; rw [q1]; simp only [if_true, Option.getD_none, Option.isSome_none]; unfold kz))
    rw [← HP.out]
    refine ⟨?_, .inl ⟨Q.out, rfl⟩⟩
    exact (Below.refl _ _).alloc (Nat.le_refl _) _
  · have hrow : ∀ b ∈ row, b < 256 := h3.row k id row q1
    obtain ⟨x, hx⟩ : ∃ x, k / 16 = x := ⟨_, rfl⟩
    obtain ⟨y, hy⟩ : ∃ y, k % 16 = y := ⟨_, rfl⟩
    unfold kpv at q5
    rw [hx, hy] at q5
    obtain ⟨W1, hW1⟩ : ∃ W1, w.alloc (.cells #[.string (strB row), .int .i64 (x : Int), .int .i64 (y : Int)] 74) = W1 := ⟨_, rfl⟩
    have hb1 : Below w.heap.size w W1 := by rw [← hW1]; exact (Below.refl _ _).alloc (Nat.le_refl _) _
    have hc1 : W1.cell? ⟨w.heap.size, 0, none⟩ = some (.string (strB row)) := by rw [← hW1, cell_of_block (heap_alloc_new w _)]; rfl
    obtain ⟨cc, w2, hcv, hb2, how, -⟩ := conv_bytes W1 (strB row)
    obtain ⟨lr, hlr⟩ : ∃ lr, (strB row).size = lr := ⟨_, rfl⟩
    rw [sl_strB hrow] at how
    rw [hlr] at hcv how
    have HF := Lib.hid (show P (.returned (.tuple #[.slice (some ⟨W1.heap.size, 0, none⟩) lr cc, .bool true])) w2 by
      rw [← HP.out]
      exact ⟨stepB hb1 hb2, .inr ⟨k, row, _, q1, q2, q4, how.le hb1.size, rfl⟩⟩)
    clear h1 h2 h3 h4 c5 q1 q2 q3 q4 HP hb1 hb2 how hrow hx hy
    go_enter Tryd.func22, Tryd.ntmps22
    go_upto_region 4 with (first | (at_lookup; refine wp_look _ rfl _ _ 66 true rfl 3 74 Tryd.underlying66 Tryd.underlying3 ik_key kz kz_run rfl HM.out id rfl ?_; rw [q5]; simp only [if_true, Option.getD_some, Option.isSome_some]))
    go_wp2_with fail
    exact HF.out
def PlaceI (id : Int) (s : List Sl) : Int × Int := if hFind id s < 0 then (-1, -1) else (hFind id s / 16, hFind id s % 16)
set_option maxHeartbeats 1000000 in
theorem hplace_any {B : Nat} {w : World} {F : Bl} {gh : Nat} {s : List Sl} {last : Int} (h : HpX B w F gh s last) (id : Int) : Calls Tryd.prog 25 #[.pointer (some ⟨gh, 0, none⟩), .int .i64 id] w fun e w' => e = .returned (.tuple #[.int .i64 (PlaceI id s).1, .int .i64 (PlaceI id s).2]) ∧ Below w.heap.size w w' := by
  generalize hP : (fun (e : Ending) (w' : World) => e = .returned (.tuple #[.int .i64 (PlaceI id s).1, .int .i64 (PlaceI id s).2]) ∧ Below w.heap.size w w') = P
  have HP := Lib.hid hP
  clear hP
  obtain ⟨b, t, v, ps, o, f, n, es, Ft, h1, h2, h3, h4, rfl⟩ := h
  obtain ⟨c0, -, -, -, -, c5⟩ := h1.cells
  have HM := Lib.hid h1.mp
  rcases h3.cases id with ⟨q1, q2, -⟩ | ⟨k, row, q1, q2, q3, q4, q5⟩
  · have HF := Lib.hid (show ∀ w', Below w.heap.size w w' → P (.returned (.tuple #[.int .i64 (-1), .int .i64 (-1)])) w' by
      intro w' hb
      rw [← HP.out]
      unfold PlaceI
      rw [q2]
      exact ⟨rfl, hb⟩)
    clear h1 h2 h3 h4 c5 q2 HP
    go_enter Tryd.func25, Tryd.ntmps25
    go_wp2_with (first | (at_lookup; refine wp_look _ rfl _ _ 66 true rfl 3 74 Tryd.underlying66 Tryd.underlying3 ik_key kz kz_run rfl HM.out id rfl ?_; rw [q1]; simp only [if_true, Option.getD_none, Option.isSome_none]; unfold kz))
    exact HF.out _ ((Below.refl _ _).alloc (Nat.le_refl _) _)
  · have HF := Lib.hid (show ∀ w', Below w.heap.size w w' → P (.returned (.tuple #[.int .i64 ((k / 16 : Nat) : Int), .int .i64 ((k % 16 : Nat) : Int)])) w' by
      intro w' hb
      rw [← HP.out]
      unfold PlaceI
      rw [q4, if_neg (by omega)]
      exact ⟨rfl, hb⟩)
    obtain ⟨x, hx⟩ : ∃ x, k / 16 = x := ⟨_, rfl⟩
    obtain ⟨y, hy⟩ : ∃ y, k % 16 = y := ⟨_, rfl⟩
    unfold kpv at q5
    rw [hx, hy] at HF q5
    clear h1 h2 h3 h4 c5 q1 q2 q3 q4 HP hx hy
    go_enter Tryd.func25, Tryd.ntmps25
    go_upto_region 4 with (first | (at_lookup; refine wp_look _ rfl _ _ 66 true rfl 3 74 Tryd.underlying66 Tryd.underlying3 ik_key kz kz_run rfl HM.out id rfl ?_; rw [q5]; simp only [if_true, Option.getD_some, Option.isSome_some]))
    go_quiet (fail)
    go_wp2_with fail
    exact HF.out _ (stepB ((Below.refl _ _).alloc (Nat.le_refl _) (.cells #[.string (strB row), .int .i64 (x : Int), .int .i64 (y : Int)] 74)) ⟨rfl, rfl, rfl, Nat.le_refl _, fun _ _ => rfl⟩)

end Go.Proofs.YtmmchhlfbhbigaaDoor

namespace Go.Proofs.YtmmchhlfbhbigaaDoor
set_option maxRecDepth 100000
open Go.RowKit Go.Joins Go.ChangeShapes Go.WideShapes
open Go.MapKept
set_option linter.unusedVariables false
set_option linter.unusedSimpArgs false

theorem hBeh_none {s : List Sl} {last id : Int} (h : ∀ (k : Nat) (i : Int) (row : List Nat), s[k]? = some (i, row) → 0 ≤ i ∧ i ≤ last) (hid : ¬ id < last) : hBeh id 0 s = 0 := by
  rcases hBeh_spec id s 0 (.inl rfl) with ⟨h1, -⟩ | ⟨⟨x, hx, h1⟩, h2, h3, -, -⟩
  · exact h1
  · obtain ⟨k, hk⟩ := List.getElem?_of_mem hx
    have := (h k x.1 x.2 hk)
    omega
theorem fromE_open {w w' : World} {es : List Ent} {k : List Nat} {e : Ending} (h : FromE w es k e w') : Below w.heap.size w w' ∧ ∃ (a : Option Addr) (m c : Nat) (r : Int) (ok : Bool), e = .returned (.tuple #[.agg #[.slice a m c, .int .i64 r], .bool ok]) ∧ ((es[(ePl es k).1]? = none ∧ r = 0 ∧ ok = false) ∨ ∃ x, es[(ePl es k).1]? = some x ∧ r = x.2 ∧ ok = true) := by
  obtain ⟨h1, ⟨x, v, h2, h3, rfl⟩ | ⟨h2, rfl⟩⟩ := h
  · obtain ⟨g, cap, rfl, -⟩ := h3
    exact ⟨h1, _, _, _, x.2, true, rfl, .inr ⟨x, h2, rfl, rfl⟩⟩
  · exact ⟨h1, none, 0, 0, 0, false, rfl, .inl ⟨h2, rfl, rfl⟩⟩
abbrev EBox (v : Value) (r : Int) : Obj := .cells #[v, .int .i64 r] 80
theorem ebox_late {w w2 : World} (hb : Below w.heap.size w w2) (v : Value) (r : Int) : Below w.heap.size w (w2.alloc (EBox v r)) ∧ (w2.alloc (EBox v r)).heap[w2.heap.size]? = some (.cells #[v, .int .i64 r] 80 (0, 0)) := ⟨hb.alloc hb.size _, heap_alloc_new _ _⟩
theorem ebox_early {w w2 : World} {g : Nat} (hg : w.heap.size ≤ g) (hb : Below w.heap.size w w2) (hn : w2.heap[g]? = some (.cells #[.slice none 0 0, .int .i64 0] 80 (0, 0))) (v : Value) (r : Int) :
    (Below w.heap.size w ((w2.setCell ⟨g, 0, none⟩ v).setCell ⟨g, 1, none⟩ (.int .i64 r)) ∧ ((w2.setCell ⟨g, 0, none⟩ v).setCell ⟨g, 1, none⟩ (.int .i64 r)).heap[g]? = some (.cells #[v, .int .i64 r] 80 (0, 0))) ∧
      w2.cell? ⟨g, 0, none⟩ = some (.slice none 0 0) ∧ w2.cell? ⟨g, 1, none⟩ = some (.int .i64 0) ∧ w2.frozen? ⟨g, 0, none⟩ = false ∧ w2.frozen? ⟨g, 1, none⟩ = false := by
  refine ⟨⟨(Below.setCell hb hg _).setCell hg _, ?_⟩, by rw [cell_of_block hn]; rfl, by rw [cell_of_block hn]; rfl, unfrozen_of_block hn 0, unfrozen_of_block hn 1⟩
  have h1 := block_setCell (i := 0) hn v
  rw [block_setCell h1]
  rfl
set_option maxHeartbeats 4000000 in
theorem hbehind_any {B : Nat} {w : World} {F : Bl} {gh : Nat} {s : List Sl} {last : Int} (h : HpX B w F gh s last) (hl : last ≤ 4294967296) (id : Int) (hi : InI id) : Calls Tryd.prog 19 #[.pointer (some ⟨gh, 0, none⟩), .int .i64 id] w fun e w' => e = .returned (.tuple #[.int .i64 (hBeh id 0 s), .bool (decide (0 < hBeh id 0 s))]) ∧ Below w.heap.size w w' := by
  generalize hP : (fun (e : Ending) (w' : World) => e = .returned (.tuple #[.int .i64 (hBeh id 0 s), .bool (decide (0 < hBeh id 0 s))]) ∧ Below w.heap.size w w') = P
  have HP := Lib.hid hP
  clear hP
  obtain ⟨b, t, v, ps, o, f, n, es, Ft, h1, h2, h3, h4, rfl⟩ := h
  obtain ⟨-, c1, -, -, c4, c5⟩ := h1.cells
  by_cases hid : id < last
  · have hnl : ¬ last ≤ id := by omega
    have h3b := h3.beh h1.tr.srt (show InI last by unfold InI; omega) hi hid
    have HO := Lib.hid (fun (wx : World) => okey_any (id + 1) (show InI (id + 1) by unfold InI at hi ⊢; omega) wx)
    have HT := Lib.hid (fun (wx : World) (hb : Below w.heap.size w wx) (u : Value) (hu : KeyAt wx (fun _ => True) u (kOf (id + 1))) => tfrom_any B wx Ft t es (h1.tr.below hb) _ u _ hu)
    have e1 : IntKind.i64.wrap (id + 1) = id + 1 := by rw [IntKind.wrap_i64]; unfold InI at hi; omega
    have HB := Lib.hid (show ∀ (r : Int) (ok : Bool) w', ((es[(ePl es (kOf (id + 1))).1]? = none ∧ r = 0 ∧ ok = false) ∨ ∃ x, es[(ePl es (kOf (id + 1))).1]? = some x ∧ r = x.2 ∧ ok = true) → Below w.heap.size w w' → P (.returned (.tuple #[.int .i64 r, .bool ok])) w' by
      intro r ok w' hr hb
      rw [← HP.out]
      rcases h3b with ⟨g1, g2⟩ | ⟨x, g1, g2, g3, g4, -⟩
      · rcases hr with ⟨-, rfl, rfl⟩ | ⟨y, q1, -⟩
        · rw [g2]; exact ⟨rfl, hb⟩
        · rw [g1] at q1; cases q1
      · rcases hr with ⟨q1, -⟩ | ⟨y, q1, rfl, rfl⟩
        · rw [g1] at q1; cases q1
        · rw [g1] at q1; injection q1 with q1; subst q1
          rw [← g2, decide_eq_true g4]
          exact ⟨rfl, hb⟩)
    have hdec : decide (last ≤ id) = false := by simpa using hid
    have LG := Lib.hid h1.lg
    have lg := h1.lg
    have HTE := Lib.hid (fun (wx : World) (hb : Below w.heap.size w wx) (hbx : wx.heap[w.heap.size]? = some (.cells #[.slice none 0 0, .int .i64 0] 80 (0, 0))) (u : Value) (hu : KeyAt wx (fun _ => True) u (kOf (id + 1))) =>
      (HT.out wx hb u hu).mono (fun e w2 (hf : FromE wx es (kOf (id + 1)) e w2) => (⟨hf, (hf.1.block _ (Array.getElem?_eq_some_iff.1 hbx).1).trans hbx⟩ : FromE wx es (kOf (id + 1)) e w2 ∧ w2.heap[w.heap.size]? = some (.cells #[.slice none 0 0, .int .i64 0] 80 (0, 0)))))
    clear h1 h2 h3 h4 h3b HP c5
    go_enter Tryd.func19, Tryd.ntmps19
    go_upto_region 3 with fail
    go_cut [7, 6] (fun q7 q6 wx => ∃ (g6 : Nat) (r : Int) (ok : Bool) (v : Value), q7 = .bool ok ∧ q6 = .pointer (some ⟨g6, 0, none⟩) ∧ (Below w.heap.size w wx ∧ wx.heap[g6]? = some (.cells #[v, .int .i64 r] 80 (0, 0))) ∧ ((es[(ePl es (kOf (id + 1))).1]? = none ∧ r = 0 ∧ ok = false) ∨ ∃ x, es[(ePl es (kOf (id + 1))).1]? = some x ∧ r = x.2 ∧ ok = true))
    case first =>
      go_region_law (first
        | (go_simp; go_at_call 38; (with_reducible refine (HO.out w.drew).mono ?_); rintro e w1 ⟨u, rfl, hu, hb⟩; have BL := Lib.hid (stepB ((Below.refl _ _).drew) hb); have HU := Lib.hid (hu.mono (fun _ _ => trivial)); obtain ⟨ua, ub, uo, uc, rfl, -, -⟩ := _root_.id hu; have k1 := (BL.out.cell LG.out).trans c1; have lt1 := Nat.lt_of_lt_of_le LG.out BL.out.size; clear hu hb)
        | (go_simp; go_at_call 38; (with_reducible refine (HO.out (w.alloc (.cells #[.slice none 0 0, .int .i64 0] 80)).drew).mono ?_); rintro e w1 ⟨u, rfl, hu, hb⟩; have BL := Lib.hid (stepB (((Below.refl _ _).alloc (Nat.le_refl _) _).drew) hb); have BX := Lib.hid (show w1.heap[w.heap.size]? = some (.cells #[.slice none 0 0, .int .i64 0] 80 (0, 0)) from (hb.block _ (by simp [World.drew, -World.drew_eq])).trans (heap_alloc_new w _)); have HU := Lib.hid (hu.mono (fun _ _ => trivial)); obtain ⟨ua, ub, uo, uc, rfl, -, -⟩ := _root_.id hu; have k1 := (BL.out.cell LG.out).trans c1; have lt1 := Nat.lt_of_lt_of_le LG.out BL.out.size; clear hu hb)
        | (go_simp; go_at_call 40; (with_reducible refine (HTE.out w1 BL.out BX.out _ HU.out).mono ?_); rintro e w2 ⟨hfe, hbx⟩; obtain ⟨hb2, ra, rm, rc, r, ok, rfl, hx⟩ := fromE_open hfe; have HX := Lib.hid hx; obtain ⟨hq, c6, c7, f6, f7⟩ := ebox_early (Nat.le_refl _) (stepB BL.out hb2) hbx (.slice ra rm rc) r; have HQ := Lib.hid hq; clear hfe hb2 hx hbx)
        | (go_simp; go_at_call 40; (with_reducible refine (HT.out w1 BL.out _ HU.out).mono ?_); rintro e w2 hfe; obtain ⟨hb2, ra, rm, rc, r, ok, rfl, hx⟩ := fromE_open hfe; have HX := Lib.hid hx; have HQ := Lib.hid (ebox_late (stepB BL.out hb2) (.slice ra rm rc) r); clear hfe hb2 hx)
        | (go_simp; go_at_call 40; (with_reducible refine (HT.out (w1.alloc (.cells #[.slice none 0 0, .int .i64 0] 80)) (BL.out.alloc BL.out.size _) _ (HU.out.step (Frm.of_below (F := fun _ => False) ((Below.refl _ _).alloc (Nat.le_refl _) _)) (fun _ _ h => h))).mono ?_); rintro e w2 hfe; obtain ⟨hb2, ra, rm, rc, r, ok, rfl, hx⟩ := fromE_open hfe; have HX := Lib.hid hx; obtain ⟨hq, c6, c7, f6, f7⟩ := ebox_early BL.out.size (stepB (BL.out.alloc BL.out.size _) hb2) ((hb2.block _ (by simp)).trans (heap_alloc_new w1 _)) (.slice ra rm rc) r; have HQ := Lib.hid hq; clear hfe hb2 hx))
      all_goals
        go_wp2_with fail
        go_meet
        exact ⟨_, _, _, _, rfl, rfl, HQ.out, HX.out⟩
    case rest =>
      obtain ⟨g6, r, ok, v6, rfl, rfl, ⟨b4, p4⟩, hx⟩ := hcut
      have y1 : wc.cell? ⟨g6, 1, none⟩ = some (.int .i64 r) := by rw [cell_of_block p4]; rfl
      have HF := Lib.hid (HB.out r ok wc hx b4)
      clear b4 p4 hx
      go_wp2_with fail
      exact HF.out
  · have hz := hBeh_none (fun k i row hk => h3.ids k i row hk) hid
    have HF := Lib.hid (show P (.returned (.tuple #[.int .i64 0, .bool false])) w by
      rw [← HP.out, hz]
      exact ⟨rfl, Below.refl _ _⟩)
    have hdec : last ≤ id := by omega
    clear h1 h2 h3 h4 HP c5 hz
    go_enter Tryd.func19, Tryd.ntmps19
    go_wp2_with fail
    exact HF.out

end Go.Proofs.YtmmchhlfbhbigaaDoor
