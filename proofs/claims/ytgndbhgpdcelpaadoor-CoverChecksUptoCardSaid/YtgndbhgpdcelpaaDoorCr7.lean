/-
  The document's check is the program's (pure).
  Conditions: none.
-/
import Derived.Test.YtgndbhgpdcelpaaDoorCr6
import Derived.Test.YtgndbhgpdcelpaaDoorCv21
namespace Go.Proofs.YtgndbhgpdcelpaaDoor
set_option maxRecDepth 100000
open Go.RowKit Go.Joins Go.ChangeShapes Go.WideShapes
set_option linter.unusedVariables false
set_option linter.unusedSimpArgs false

theorem tw_lt {α : Type} {p : α → Bool} : ∀ {q : List α} {i : Nat} {x : α}, i < (q.takeWhile p).length → q[i]? = some x → p x = true
  | [], i, x, h, hx => by simp at hx
  | a :: r, i, x, h, hx => by
    cases ha : p a with
    | false => rw [List.takeWhile_cons_of_neg (by rw [ha]; decide)] at h; simp at h
    | true =>
      rw [List.takeWhile_cons_of_pos ha] at h
      cases i with
      | zero => simp at hx; rw [← hx]; exact ha
      | succ i => exact tw_lt (q := r) (by simpa using h) (by simpa using hx)
theorem tw_end {α : Type} {p : α → Bool} {q : List α} {x : α} (hx : q[(q.takeWhile p).length]? = some x) : p x = false := by
  induction q with
  | nil => simp at hx
  | cons a r ih =>
    cases ha : p a with
    | false => rw [List.takeWhile_cons_of_neg (by rw [ha]; decide)] at hx; simp at hx; rw [← hx]; exact ha
    | true =>
      rw [List.takeWhile_cons_of_pos ha] at hx
      exact ih (by simpa using hx)
theorem okK_iff (q : List Ins) : okAllK q = true ↔ ∀ (k : Nat) (x : Ins), q[k]? = some x → okK q k x = true := by
  constructor
  · intro h k x hx
    cases c : okK q k x with
    | true => rfl
    | false => rw [okK_no hx c] at h; cases h
  · intro h
    exact okK_yes fun k x _ hx => h k x hx
/-- locks ahead, told place by place -/
theorem fs_iff (q : List Ins) : (∀ (k : Nat) (x : Ins), q[k]? = some x → lkP q k x = true) ↔ fsB q = true := by
  unfold fsB
  obtain ⟨t, ht⟩ : ∃ t, (q.takeWhile fun x => !(!(x.op == 1))).length = t := ⟨_, rfl⟩
  rw [ht]
  simp only [Bool.not_eq_true']
  rw [List.any_eq_false]
  constructor
  · intro h x hx
    obtain ⟨j, hj⟩ := List.getElem?_of_mem hx
    rw [List.getElem?_drop] at hj
    have key : ∀ (j : Nat) (y : Ins), q[t + j]? = some y → (y.op == 1) = false := by
      intro j
      induction j with
      | zero =>
        intro y hy
        have := tw_end (p := fun x : Ins => !(!(x.op == 1))) (q := q) (x := y) (by rw [ht]; exact hy)
        simpa using this
      | succ j ih =>
        intro y hy
        cases hy1 : y.op == 1 with
        | false => rfl
        | true =>
          have h2 := h _ y hy
          unfold lkP at h2
          rw [hy1, show decide (0 < t + (j + 1)) = true by simp; omega] at h2
          simp only [Bool.and_self, if_true] at h2
          rw [show t + (j + 1) - 1 = t + j by omega] at h2
          cases hz : q[t + j]? with
          | none => rw [hz] at h2; cases h2
          | some z =>
            rw [hz] at h2
            have h3 : (z.op == 1) = true := h2
            rw [ih z hz] at h3
            cases h3
    rw [key j x hj]
    decide
  · intro h k x hx
    unfold lkP
    cases h1 : x.op == 1 with
    | false => rfl
    | true =>
      by_cases hk : 0 < k
      · simp only [hk, decide_true, Bool.and_self, if_true]
        have hkt : k < t := by
          by_cases c : k < t
          · exact c
          · exfalso
            have hm : x ∈ q.drop t := List.mem_of_getElem? (i := k - t) (by rw [List.getElem?_drop, show t + (k - t) = k by omega]; exact hx)
            have := h x hm
            rw [h1] at this
            exact this rfl
        obtain ⟨y, hy⟩ : ∃ y, q[k - 1]? = some y := ⟨_, List.getElem?_eq_getElem (by have := (List.getElem?_eq_some_iff.1 hx).1; omega)⟩
        rw [hy]
        have := tw_lt (p := fun x : Ins => !(!(x.op == 1))) (q := q) (i := k - 1) (x := y) (by rw [ht]; omega) hy
        simpa using this
      · simp [hk]
theorem md_tl {t t' : ByteArray} (h : t.toList = t'.toList) : ∀ (l : List Ins) (m : Int), mdL t l m = mdL t' l m
  | [], m => rfl
  | x :: r, m => by
    rw [mdL, mdL, md_tl h r]
    unfold lkB
    rw [h]
theorem cv_31 {m : Int} (h : cvI m 3 = true) : cvI m 1 = true := cv_trans h rfl
theorem cur_cases {n : Int} (h : curB n = true) : n = 0 ∨ n = 1 ∨ n = 2 ∨ n = 3 := by
  unfold curB at h
  simp only [Bool.and_eq_true, decide_eq_true_eq] at h
  omega
theorem rd_cur {q : List Ins} (h : rdB q = true) {c : Int} (hc : curB c = true) : ccB q c = true := by
  obtain ⟨r0, r1, r2, r3⟩ := rd_parts h
  rcases cur_cases hc with rfl | rfl | rfl | rfl
  · exact r0
  · exact r1
  · exact r2
  · exact r3
theorem well_cur {n : Nat} {x : Ins} (h : wellB n x = true) (ho : x.op = 2 ∨ x.op = 3) : curB x.c = true := by
  unfold wellB at h
  simp only [Bool.and_eq_true] at h
  have h2 := h.2
  unfold fitB at h2
  rcases ho with ho | ho
  · rw [ho] at h2
    exact h2
  · rw [ho] at h2
    simp only [show ((3 : Int) == 1) = false from rfl, show ((3 : Int) == 2) = false from rfl, show ((3 : Int) == 3) = true from rfl, if_true, Bool.false_eq_true, if_false, Bool.and_eq_true] at h2
    exact h2.1
theorem mem_oc {q : List Ins} {op c : Int} {x : Ins} : x ∈ q.filter (ocB op c) ↔ x ∈ q ∧ x.op = op ∧ x.c = c := by
  rw [List.mem_filter]
  unfold ocB
  simp
/-- rightness and reading, told instruction by instruction -/
theorem rd_iff (q : List Ins) : (∀ x ∈ q, rtB q.length x = true ∧ rdR q x = true) ↔ ((∀ x ∈ q, wellB q.length x = true) ∧ rdB q = true) := by
  constructor
  · intro h
    have hw : ∀ x ∈ q, wellB q.length x = true := fun x hx => by
      have := (h x hx).1
      unfold rtB at this
      simp only [Bool.and_eq_true] at this
      exact this.1
    refine ⟨hw, ?_⟩
    have hcc : ∀ c, ccB q c = true := by
      intro c
      unfold ccB
      cases hf : q.filter (ocB 2 c) with
      | nil =>
        simp only
        rw [List.isEmpty_iff, List.eq_nil_iff_forall_not_mem]
        intro x hx
        obtain ⟨h1, h2, h3⟩ := mem_oc.1 hx
        have := (h x h1).2
        unfold rdR at this
        rw [h2, h3, hf] at this
        simp at this
      | cons o r =>
        simp only
        have hom : o ∈ q.filter (ocB 2 c) := by rw [hf]; exact List.mem_cons_self ..
        obtain ⟨o1, o2, o3⟩ := mem_oc.1 hom
        have hro := (h o o1).2
        unfold rdR at hro
        rw [o2, o3, hf] at hro
        simp only [show ((2 : Int) == 2) = true from rfl, if_true, Bool.and_eq_true, Bool.or_eq_true, decide_eq_true_eq] at hro
        have hidx : -1 ≤ o.idx := by
          have := (h o o1).1
          unfold rtB at this
          rw [o2] at this
          simp only [show ((2 : Int) == 2) = true from rfl, Bool.true_and, Bool.and_eq_true, Bool.not_eq_true', decide_eq_false_iff_not] at this
          omega
        rw [Bool.and_eq_true]
        refine ⟨?_, ?_⟩
        · rw [List.all_eq_true]
          intro x hx
          rw [← hf] at hx
          obtain ⟨x1, x2, x3⟩ := mem_oc.1 hx
          have hrx := (h x x1).2
          unfold rdR at hrx
          rw [x2, x3, hf] at hrx
          simp only [show ((2 : Int) == 2) = true from rfl, if_true, Bool.and_eq_true, beq_iff_eq] at hrx
          rw [Bool.and_eq_true, beq_iff_eq, beq_iff_eq]
          exact ⟨hrx.1.1.symm, hrx.1.2.symm⟩
        · by_cases hk : o.idx = -1
          · rw [show (o.idx == -1) = true by rw [beq_iff_eq]; exact hk]
            simp only [if_true]
            rcases hro.2 with hh | hh
            · exact hh
            · omega
          · rw [show (o.idx == -1) = false by simpa using hk]
            simp only [Bool.false_eq_true, if_false, Bool.and_eq_true, decide_eq_true_eq]
            have hnx : ∀ x ∈ q.filter (ocB 3 c), cvI x.mode 3 = true ∧ cvI x.part 3 = true := fun x hx => by
              obtain ⟨x1, x2, x3⟩ := mem_oc.1 hx
              have hrx := (h x x1).2
              unfold rdR at hrx
              rw [x2, x3, hf] at hrx
              simp only [show ((3 : Int) == 2) = false from rfl, show ((3 : Int) == 3) = true from rfl, Bool.false_eq_true, if_false, if_true, Bool.and_eq_true, Bool.or_eq_true, decide_eq_true_eq] at hrx
              rcases hrx with hh | hh
              · omega
              · exact hh
            refine ⟨⟨⟨by omega, ?_⟩, List.all_eq_true.2 fun x hx => (hnx x hx).1⟩, List.all_eq_true.2 fun x hx => (hnx x hx).2⟩
            rcases hro.2 with hh | hh
            · exact cv_31 hh
            · exact hh.2
    unfold rdB
    rw [hcc, hcc, hcc, hcc]
    rfl
  · rintro ⟨hw, hr⟩ x hx
    have hwx := hw x hx
    by_cases h2 : x.op = 2
    · have hc := rd_cur hr (well_cur hwx (.inl h2))
      have hxm : x ∈ q.filter (ocB 2 x.c) := mem_oc.2 ⟨hx, h2, rfl⟩
      unfold ccB at hc
      cases hf : q.filter (ocB 2 x.c) with
      | nil => rw [hf] at hxm; cases hxm
      | cons o r =>
        rw [hf] at hc hxm
        simp only [Bool.and_eq_true] at hc
        obtain ⟨ha, hb⟩ := hc
        have hax := List.all_eq_true.1 ha x hxm
        rw [Bool.and_eq_true, beq_iff_eq, beq_iff_eq] at hax
        obtain ⟨ht, hi⟩ := hax
        have hmd := md_tl ht q 0
        by_cases hk : o.idx = -1
        · rw [show (o.idx == -1) = true by rw [beq_iff_eq]; exact hk] at hb
          simp only [if_true] at hb
          refine ⟨?_, ?_⟩
          · unfold rtB
            rw [hwx, show decide (x.idx < -1) = false by simp; omega]
            simp
          · unfold rdR
            rw [h2, hf]
            simp only [show ((2 : Int) == 2) = true from rfl, if_true, hmd, hb, Bool.true_or, Bool.and_true, Bool.and_eq_true, beq_iff_eq]
            exact ⟨ht.symm, hi.symm⟩
        · rw [show (o.idx == -1) = false by simpa using hk] at hb
          simp only [Bool.false_eq_true, if_false, Bool.and_eq_true, decide_eq_true_eq] at hb
          refine ⟨?_, ?_⟩
          · unfold rtB
            rw [hwx, show decide (x.idx < -1) = false by simp; omega]
            simp
          · unfold rdR
            rw [h2, hf]
            simp only [show ((2 : Int) == 2) = true from rfl, if_true, hmd, Bool.and_eq_true, beq_iff_eq]
            refine ⟨⟨ht.symm, hi.symm⟩, ?_⟩
            rw [show decide (0 ≤ x.idx) = true by simp; omega, hb.1.1.2]
            simp
    · have hrt : rtB q.length x = true := by
        unfold rtB
        rw [hwx, show (x.op == 2) = false by simpa using h2]
        rfl
      refine ⟨hrt, ?_⟩
      unfold rdR
      rw [show (x.op == 2) = false by simpa using h2]
      simp only [Bool.false_eq_true, if_false]
      by_cases h3 : x.op = 3
      · have hc := rd_cur hr (well_cur hwx (.inr h3))
        have hxm : x ∈ q.filter (ocB 3 x.c) := mem_oc.2 ⟨hx, h3, rfl⟩
        rw [show (x.op == 3) = true by rw [beq_iff_eq]; exact h3]
        simp only [if_true]
        unfold ccB at hc
        cases hf : q.filter (ocB 2 x.c) with
        | nil =>
          rw [hf] at hc
          simp only at hc
          rw [List.isEmpty_iff] at hc
          rw [hc] at hxm
          cases hxm
        | cons o r =>
          rw [hf] at hc
          simp only [Bool.and_eq_true] at hc
          by_cases hk : o.idx = -1
          · simp only [hk]
            simp
          · have hb := hc.2
            rw [show (o.idx == -1) = false by simpa using hk] at hb
            simp only [Bool.false_eq_true, if_false, Bool.and_eq_true, decide_eq_true_eq] at hb
            have m1 := List.all_eq_true.1 hb.1.2 x hxm
            have m2 := List.all_eq_true.1 hb.2 x hxm
            simp only [m1, m2]
            simp
      · rw [show (x.op == 3) = false by simpa using h3]
        simp

end Go.Proofs.YtgndbhgpdcelpaaDoor
