/-
  A plan with stronger modes, and one that locks more at its beginning, stay covered (pure).
  Conditions: none.
-/
import Derived.Test.YtgndbhgpdcelpaaDoorCv20
namespace Go.Proofs.YtgndbhgpdcelpaaDoor
set_option maxRecDepth 100000
open Go.RowKit Go.Joins Go.ChangeShapes Go.WideShapes
set_option linter.unusedVariables false
set_option linter.unusedSimpArgs false

theorem cv_kn {a b : Int} (h : cvI a b = true) : ∃ m n : Nat, a = m ∧ b = n ∧ m < 7 ∧ n < 7 ∧ tb cvL m n = true := by
  unfold cvI at h
  simp only [Bool.and_eq_true] at h
  obtain ⟨⟨h1, h2⟩, h3⟩ := h
  obtain ⟨m, rfl, hm⟩ := kn_cases h1
  obtain ⟨n, rfl, hn⟩ := kn_cases h2
  exact ⟨m, n, rfl, rfl, hm, hn, by simpa using h3⟩
theorem cv_trans_n : ∀ a, a < 7 → ∀ b, b < 7 → ∀ c, c < 7 → tb cvL a b = true → tb cvL b c = true → cvI (a : Nat) (c : Nat) = true := by decide +kernel
theorem cv_trans {a b c : Int} (h1 : cvI a b = true) (h2 : cvI b c = true) : cvI a c = true := by
  obtain ⟨m, n, rfl, rfl, hm, hn, e1⟩ := cv_kn h1
  obtain ⟨n', k, e, rfl, hn', hk, e2⟩ := cv_kn h2
  obtain rfl : n = n' := by omega
  exact cv_trans_n m hm n hn k hk e1 e2
theorem cv_mono_b : ((List.range 7).all fun a => (List.range 7).all fun b => (List.range 7).all fun c => (List.range 7).all fun d => !(tb cvL a b) || !(tb cvL c d) || cvI (jnI (a : Nat) (c : Nat)) (jnI (b : Nat) (d : Nat))) = true := by decide +kernel
theorem cv_mono_n (a : Nat) (ha : a < 7) (b : Nat) (hb : b < 7) (c : Nat) (hc : c < 7) (d : Nat) (hd : d < 7) (h1 : tb cvL a b = true) (h2 : tb cvL c d = true) : cvI (jnI (a : Nat) (c : Nat)) (jnI (b : Nat) (d : Nat)) = true := by
  have h := List.all_eq_true.1 (List.all_eq_true.1 (List.all_eq_true.1 (List.all_eq_true.1 cv_mono_b a (List.mem_range.2 ha)) b (List.mem_range.2 hb)) c (List.mem_range.2 hc)) d (List.mem_range.2 hd)
  rw [h1, h2] at h
  simpa using h
theorem cv_mono {a b c d : Int} (h1 : cvI a b = true) (h2 : cvI c d = true) : cvI (jnI a c) (jnI b d) = true := by
  obtain ⟨m, n, rfl, rfl, hm, hn, e1⟩ := cv_kn h1
  obtain ⟨m', n', rfl, rfl, hm', hn', e2⟩ := cv_kn h2
  exact cv_mono_n m hm n hn m' hm' n' hn' e1 e2
theorem cv_refl_n : ∀ a, a < 7 → cvI (a : Nat) (a : Nat) = true := by decide
theorem cv_refl {a : Int} (h : kn a = true) : cvI a a = true := by
  obtain ⟨m, rfl, hm⟩ := kn_cases h
  exact cv_refl_n m hm
theorem cv_six_n : ∀ a, a < 7 → cvI 6 (a : Nat) = true := by decide
theorem cv_six {a : Int} (h : kn a = true) : cvI 6 a = true := by
  obtain ⟨m, rfl, hm⟩ := kn_cases h
  exact cv_six_n m hm
/-- the modes of tables grow with those of the locks -/
theorem md_mono (t : ByteArray) (f : Ins → Ins) : ∀ (q : List Ins) (m m' : Int), (∀ x ∈ q, lkB t (f x) = lkB t x ∧ (lkB t x = true → cvI (f x).mode x.mode = true)) → cvI m' m = true → cvI (mdL t (q.map f) m') (mdL t q m) = true
  | [], m, m', _, h => h
  | x :: r, m, m', hf, h => by
    rw [List.map_cons, mdL, mdL]
    obtain ⟨h1, h2⟩ := hf x (List.mem_cons_self ..)
    refine md_mono t f r _ _ (fun y hy => hf y (List.mem_cons_of_mem _ hy)) ?_
    rw [h1]
    cases hl : lkB t x with
    | false => simpa using h
    | true => simpa using cv_mono h (h2 hl)
theorem filter_map' {p : Ins → Bool} {f : Ins → Ins} (h : ∀ x, p (f x) = p x) : ∀ q : List Ins, (q.map f).filter p = (q.filter p).map f
  | [] => rfl
  | x :: r => by
    rw [List.map_cons]
    cases hp : p x with
    | true => rw [List.filter_cons_of_pos (by rw [h]; exact hp), List.filter_cons_of_pos hp, List.map_cons, filter_map' h r]
    | false => rw [List.filter_cons_of_neg (by rw [h, hp]; decide), List.filter_cons_of_neg (by rw [hp]; decide), filter_map' h r]
/-- what reads the same stays covered under stronger modes -/
theorem stg_cc {q p : List Ins} {f : Ins → Ins} (hf : ∀ x, (f x).tab = x.tab ∧ (f x).idx = x.idx) (hm : ∀ t, cvI (mdL t p 0) (mdL t q 0) = true) {c : Int} (h2 : p.filter (ocB 2 c) = (q.filter (ocB 2 c)).map f) (h3 : p.filter (ocB 3 c) = (q.filter (ocB 3 c)).map f)
    (hc : ∀ x ∈ q, (x.op == 3) = true → cvI (f x).mode x.mode = true ∧ cvI (f x).part x.part = true) (h : ccB q c = true) : ccB p c = true := by
  unfold ccB at h ⊢
  rw [h2, h3]
  have hall : ∀ g : Ins → Int, (∀ x ∈ q, (x.op == 3) = true → cvI (g (f x)) (g x) = true) → ∀ k, ((q.filter (ocB 3 c)).all fun x => cvI (g x) k) = true → (((q.filter (ocB 3 c)).map f).all fun x => cvI (g x) k) = true := by
    intro g hg k hk
    rw [List.all_eq_true] at hk ⊢
    intro y hy
    obtain ⟨x, hx, rfl⟩ := List.mem_map.1 hy
    have hx2 := List.mem_filter.1 hx
    have h9 := hx2.2
    unfold ocB at h9
    simp only [Bool.and_eq_true] at h9
    exact cv_trans (hg x hx2.1 h9.1) (hk x hx)
  cases hq : q.filter (ocB 2 c) with
  | nil =>
    rw [hq] at h
    simp only [List.map_nil] at h ⊢
    rw [List.isEmpty_iff] at h ⊢
    rw [h]; rfl
  | cons o r =>
    rw [hq] at h
    simp only [List.map_cons, Bool.and_eq_true] at h ⊢
    obtain ⟨ha, hb⟩ := h
    obtain ⟨ht, hi⟩ := hf o
    rw [ht, hi]
    refine ⟨?_, ?_⟩
    · rw [List.all_eq_true] at ha ⊢
      intro y hy
      rcases List.mem_cons.1 hy with rfl | hy
      · rw [ht, hi]; exact ha o (List.mem_cons_self ..)
      · obtain ⟨x, hx, rfl⟩ := List.mem_map.1 hy
        rw [(hf x).1, (hf x).2]
        exact ha x (List.mem_cons_of_mem _ hx)
    · cases hk : o.idx == -1 with
      | true =>
        rw [hk] at hb
        simp only [if_true] at hb ⊢
        exact cv_trans (hm _) hb
      | false =>
        rw [hk] at hb
        simp only [Bool.false_eq_true, if_false, Bool.and_eq_true] at hb ⊢
        obtain ⟨⟨⟨b1, b2⟩, b3⟩, b4⟩ := hb
        exact ⟨⟨⟨b1, cv_trans (hm _) b2⟩, hall (fun x => x.mode) (fun x hx h => (hc x hx h).1) 3 b3⟩, hall (fun x => x.part) (fun x hx h => (hc x hx h).2) 3 b4⟩
theorem stg_pk {tb : ByteArray} {q p : List Ins} {f : Ins → Ins} (hf : ∀ x, (f x).tab = x.tab ∧ (f x).idx = x.idx) (hn : cnL [6] p = cnL [6] q) (h2 : p.filter (ocB 2 0) = (q.filter (ocB 2 0)).map f) (h3 : p.filter (ocB 3 0) = (q.filter (ocB 3 0)).map f)
    (hc : ∀ x ∈ q, (x.op == 3) = true → cvI (f x).mode x.mode = true ∧ cvI (f x).part x.part = true) (h : pkB tb q = true) : pkB tb p = true := by
  unfold pkB at h ⊢
  rw [hn, h2, h3]
  cases h0 : cnL [6] q == 0 with
  | true => rfl
  | false =>
    rw [h0] at h
    simp only [Bool.false_or] at h ⊢
    cases hq : q.filter (ocB 2 0) with
    | nil => rw [hq] at h; cases h
    | cons o r =>
      rw [hq] at h
      simp only [List.map_cons, Bool.and_eq_true] at h ⊢
      refine ⟨by rw [(hf o).1]; exact h.1, ?_⟩
      have hk := h.2
      rw [List.all_eq_true] at hk ⊢
      intro y hy
      obtain ⟨x, hx, rfl⟩ := List.mem_map.1 hy
      have hx2 := List.mem_filter.1 hx
      have h9 := hx2.2
      unfold ocB at h9
      simp only [Bool.and_eq_true] at h9
      exact cv_trans (hc x hx2.1 h9.1).2 (hk x hx)
theorem cn_map {f : Ins → Ins} (hf : ∀ x, (f x).op = x.op) (ops : List Int) (q : List Ins) : cnL ops (q.map f) = cnL ops q := by
  unfold cnL
  rw [filter_map' (fun x => by rw [hf x]), List.length_map]
theorem tw_map {f : Ins → Ins} {p : Ins → Bool} (h : ∀ x, p (f x) = p x) : ∀ q : List Ins, ((q.map f).takeWhile p).length = (q.takeWhile p).length
  | [] => rfl
  | x :: r => by
    rw [List.map_cons, List.takeWhile_cons, List.takeWhile_cons, h]
    split
    · rw [List.length_cons, List.length_cons, tw_map h r]
    · rfl
theorem hd10_map {f : Ins → Ins} (hf : ∀ x, (f x).op = x.op) (q : List Ins) : hd10 (q.map f) = hd10 q := by
  cases q with
  | nil => rfl
  | cons x r => simp only [List.map_cons, hd10, hf x]
theorem gl_map {f : Ins → Ins} (hf : ∀ x, (f x).op = x.op) (q : List Ins) : glB (q.map f) = glB q := by
  unfold glB
  simp only [cn_map hf, tw_map (f := f) (p := fun x => !(x.op == 9)) (fun x => by rw [hf x]), ← List.map_drop, hd10_map hf]
theorem fs_map {f : Ins → Ins} (hf : ∀ x, (f x).op = x.op) (q : List Ins) : fsB (q.map f) = fsB q := by
  unfold fsB
  simp only [tw_map (f := f) (p := fun x => !(!(x.op == 1))) (fun x => by rw [hf x]), ← List.map_drop, List.any_map, Function.comp_def, hf]
theorem en_map {f : Ins → Ins} (hf : ∀ x, (f x).op = x.op) (q : List Ins) : enB (q.map f) = enB q := by
  unfold enB
  rw [List.length_map, List.getElem?_map]
  cases q[q.length - 1]? with
  | none => rfl
  | some x => simp only [Option.map_some, hf]
/-- the facts that a check says -/
theorem ck_parts {tb : ByteArray} {q : List Ins} (h : ckB tb q = true) : enB q = true ∧ (∀ x ∈ q, wellB q.length x = true) ∧ fsB q = true ∧ rdB q = true ∧ cgB tb q = true := by
  unfold ckB at h
  simp only [Bool.and_eq_true] at h
  exact ⟨h.1.1.1.1, List.all_eq_true.1 h.1.1.1.2, h.1.1.2, h.1.2, h.2⟩
theorem ck_of {tb : ByteArray} {q : List Ins} (h1 : enB q = true) (h2 : ∀ x ∈ q, wellB q.length x = true) (h3 : fsB q = true) (h4 : rdB q = true) (h5 : cgB tb q = true) : ckB tb q = true := by
  unfold ckB
  rw [h1, h3, h4, h5, List.all_eq_true.2 h2]
  rfl
theorem rd_parts {q : List Ins} (h : rdB q = true) : ccB q 0 = true ∧ ccB q 1 = true ∧ ccB q 2 = true ∧ ccB q 3 = true := by
  unfold rdB at h
  simp only [Bool.and_eq_true] at h
  exact ⟨h.1.1.1, h.1.1.2, h.1.2, h.2⟩
theorem well_kn {n : Nat} {x : Ins} (h : wellB n x = true) : kn x.mode = true ∧ kn x.part = true := by
  unfold wellB at h
  simp only [Bool.and_eq_true] at h
  exact h.1
/-- all modes of locks and of readings X -/
def strong (x : Ins) : Ins := if x.op == 1 || x.op == 3 then { x with mode := 6, part := 6 } else x
theorem st_cases (x : Ins) : ((x.op == 1) = true ∧ strong x = { x with mode := 6, part := 6 }) ∨ ((x.op == 3) = true ∧ strong x = { x with mode := 6, part := 6 }) ∨ ((x.op == 1) = false ∧ (x.op == 3) = false ∧ strong x = x) := by
  unfold strong
  cases h1 : x.op == 1 with
  | true => exact .inl ⟨rfl, by simp⟩
  | false =>
    cases h3 : x.op == 3 with
    | true => exact .inr (.inl ⟨rfl, by simp⟩)
    | false => exact .inr (.inr ⟨rfl, rfl, by simp⟩)
theorem st_same (x : Ins) : (strong x).op = x.op ∧ (strong x).c = x.c ∧ (strong x).tab = x.tab ∧ (strong x).idx = x.idx := by
  rcases st_cases x with ⟨-, e⟩ | ⟨-, e⟩ | ⟨-, -, e⟩ <;> rw [e] <;> exact ⟨rfl, rfl, rfl, rfl⟩
theorem st_well {n : Nat} {x : Ins} (h : wellB n x = true) : wellB n (strong x) = true := by
  rcases st_cases x with ⟨h1, e⟩ | ⟨h1, e⟩ | ⟨-, -, e⟩
  · rw [e]
    unfold wellB fitB
    simp only [h1, if_true]
    rfl
  · rw [e]
    unfold wellB at h ⊢
    simp only [Bool.and_eq_true] at h ⊢
    refine ⟨⟨rfl, rfl⟩, ?_⟩
    have h2 := h.2
    unfold fitB at h2 ⊢
    rw [beq_iff_eq] at h1
    simp only [h1] at h2 ⊢
    exact h2
  · rw [e]; exact h
theorem st_cv {n : Nat} {x : Ins} (h : wellB n x = true) (ho : (x.op == 1) = true ∨ (x.op == 3) = true) : cvI (strong x).mode x.mode = true ∧ cvI (strong x).part x.part = true := by
  obtain ⟨k1, k2⟩ := well_kn h
  rcases st_cases x with ⟨-, e⟩ | ⟨-, e⟩ | ⟨h1, h3, -⟩
  · rw [e]; exact ⟨cv_six k1, cv_six k2⟩
  · rw [e]; exact ⟨cv_six k1, cv_six k2⟩
  · rcases ho with ho | ho
    · rw [h1] at ho; cases ho
    · rw [h3] at ho; cases ho
theorem lk_same {f : Ins → Ins} (hf : ∀ x, (f x).op = x.op ∧ (f x).c = x.c ∧ (f x).tab = x.tab ∧ (f x).idx = x.idx) (t : ByteArray) (x : Ins) : lkB t (f x) = lkB t x := by
  unfold lkB
  rw [(hf x).1, (hf x).2.2.1]
theorem oc_same {f : Ins → Ins} (hf : ∀ x, (f x).op = x.op ∧ (f x).c = x.c ∧ (f x).tab = x.tab ∧ (f x).idx = x.idx) (op c : Int) (x : Ins) : ocB op c (f x) = ocB op c x := by
  unfold ocB
  rw [(hf x).1, (hf x).2.1]
theorem cg_of {tb : ByteArray} {q p : List Ins} (hn : ∀ ops : List Int, (∀ o ∈ ops, o ≠ 1) → cnL ops p = cnL ops q) (hm : ∀ t, cvI (mdL t p 0) (mdL t q 0) = true) (hg : glB p = glB q) (hp : pkB tb q = true → pkB tb p = true) (h : cgB tb q = true) : cgB tb p = true := by
  unfold cgB at h ⊢
  cases he : tb.toList.isEmpty with
  | true =>
    rw [he] at h
    simp only [if_true] at h ⊢
    rw [hn _ (by decide)]
    exact h
  | false =>
    rw [he] at h
    simp only [Bool.false_eq_true, if_false, Bool.and_eq_true] at h ⊢
    exact ⟨⟨cv_trans (hm _) h.1.1, by rw [hg]; exact h.1.2⟩, hp h.2⟩
/-- a covered plan stays so when all its modes become X -/
theorem strong_ok {tb : ByteArray} {q : List Ins} (h : ckB tb q = true) : ckB tb (q.map strong) = true := by
  obtain ⟨h1, h2, h3, h4, h5⟩ := ck_parts h
  have hm : ∀ t, cvI (mdL t (q.map strong) 0) (mdL t q 0) = true := fun t => md_mono t strong q 0 0 (fun x hx => ⟨lk_same st_same t x, fun hl => (st_cv (h2 x hx) (.inl (by unfold lkB at hl; simp only [Bool.and_eq_true] at hl; exact hl.1))).1⟩) rfl
  have hti : ∀ x, (strong x).tab = x.tab ∧ (strong x).idx = x.idx := fun x => (st_same x).2.2
  have hc : ∀ x ∈ q, (x.op == 3) = true → cvI (strong x).mode x.mode = true ∧ cvI (strong x).part x.part = true := fun x hx ho => st_cv (h2 x hx) (.inr ho)
  have hcc : ∀ c, ccB q c = true → ccB (q.map strong) c = true := fun c => stg_cc hti hm (filter_map' (oc_same st_same 2 c) q) (filter_map' (oc_same st_same 3 c) q) hc
  refine ck_of (by rw [en_map fun x => (st_same x).1]; exact h1) (fun y hy => ?_) (by rw [fs_map fun x => (st_same x).1]; exact h3) ?_ ?_
  · obtain ⟨x, hx, rfl⟩ := List.mem_map.1 hy
    rw [List.length_map]
    exact st_well (h2 x hx)
  · obtain ⟨r0, r1, r2, r3⟩ := rd_parts h4
    unfold rdB
    rw [hcc 0 r0, hcc 1 r1, hcc 2 r2, hcc 3 r3]
    rfl
  · exact cg_of (fun ops _ => cn_map (fun x => (st_same x).1) ops q) hm (gl_map (fun x => (st_same x).1) q) (stg_pk hti (cn_map (fun x => (st_same x).1) [6] q) (filter_map' (oc_same st_same 2 0) q) (filter_map' (oc_same st_same 3 0) q) hc) h5
/-- jumps one place on -/
def shift (x : Ins) : Ins := if x.op == 3 || x.op == 4 || x.op == 8 then { x with jt := x.jt + 1 } else x
theorem sh_cases (x : Ins) : ((x.op == 3 || x.op == 4 || x.op == 8) = true ∧ shift x = { x with jt := x.jt + 1 }) ∨ ((x.op == 3 || x.op == 4 || x.op == 8) = false ∧ shift x = x) := by
  unfold shift
  cases h : (x.op == 3 || x.op == 4 || x.op == 8) with
  | true => exact .inl ⟨rfl, by simp⟩
  | false => exact .inr ⟨rfl, by simp⟩
theorem sh_same (x : Ins) : (shift x).op = x.op ∧ (shift x).c = x.c ∧ (shift x).tab = x.tab ∧ (shift x).idx = x.idx := by
  rcases sh_cases x with ⟨-, e⟩ | ⟨-, e⟩ <;> rw [e] <;> exact ⟨rfl, rfl, rfl, rfl⟩
theorem sh_modes (x : Ins) : (shift x).mode = x.mode ∧ (shift x).part = x.part := by
  rcases sh_cases x with ⟨-, e⟩ | ⟨-, e⟩ <;> rw [e] <;> exact ⟨rfl, rfl⟩
theorem pl_up {n : Nat} {k : Int} (h : plB n k = true) : plB (n + 1) (k + 1) = true ∧ plB (n + 1) k = true := by
  unfold plB at h ⊢
  simp only [Bool.and_eq_true, decide_eq_true_eq] at h ⊢
  exact ⟨⟨by omega, by omega⟩, ⟨by omega, by omega⟩⟩
theorem sh_well {n : Nat} {x : Ins} (h : wellB n x = true) : wellB (n + 1) (shift x) = true := by
  unfold wellB at h ⊢
  simp only [Bool.and_eq_true] at h ⊢
  rw [(sh_modes x).1, (sh_modes x).2]
  refine ⟨h.1, ?_⟩
  have h2 := h.2
  unfold fitB at h2 ⊢
  rw [(sh_same x).1, (sh_same x).2.1, (sh_modes x).1]
  unfold shift
  cases c1 : x.op == 1 with
  | true => rw [c1] at h2; simpa using h2
  | false =>
    rw [c1] at h2
    cases c2 : x.op == 2 with
    | true => rw [c2] at h2; simpa using h2
    | false =>
      rw [c2] at h2
      cases c3 : x.op == 3 with
      | true =>
        rw [c3] at h2
        simp only [Bool.true_or, if_true, Bool.false_eq_true, if_false, Bool.and_eq_true] at h2 ⊢
        exact ⟨h2.1, (pl_up h2.2).1⟩
      | false =>
        rw [c3] at h2
        cases c4 : x.op == 4 with
        | true =>
          rw [c4] at h2
          simp only [Bool.true_or, Bool.or_true, if_true, Bool.false_eq_true, if_false, Bool.and_eq_true] at h2 ⊢
          exact ⟨⟨h2.1.1, (pl_up h2.1.2).1⟩, h2.2⟩
        | false =>
          rw [c4] at h2
          cases c8 : x.op == 8 with
          | true =>
            rw [c8] at h2
            simp only [Bool.or_true, if_true, Bool.false_eq_true, if_false] at h2 ⊢
            exact (pl_up h2).1
          | false =>
            rw [c8] at h2
            simpa using h2
/-- one more lock ahead -/
def lockI (t : ByteArray) (m : Int) : Ins := ⟨1, 0, 0, m, 0, t, 0, nS, nS, false, false, nS, 0, nS⟩
theorem fil_lock (p : Ins → Bool) {l : Ins} (h : p l = false) (q : List Ins) : (l :: q).filter p = q.filter p := List.filter_cons_of_neg (by rw [h]; decide)
theorem more_ok {tb : ByteArray} {q : List Ins} (h : ckB tb q = true) (hl : q.length + 1 ≤ 4096) (t : ByteArray) {m : Int} (hm1 : 1 ≤ m) (hm2 : m ≤ 6) : ckB tb (lockI t m :: q.map shift) = true := by
  obtain ⟨h1, h2, h3, h4, h5⟩ := ck_parts h
  have hop : ∀ x, (shift x).op = x.op := fun x => (sh_same x).1
  have hkm : kn m = true := by unfold kn; simp; omega
  have hm : ∀ u, cvI (mdL u (lockI t m :: q.map shift) 0) (mdL u q 0) = true := fun u => by
    rw [mdL]
    refine md_mono u shift q 0 _ (fun x hx => ⟨lk_same sh_same u x, fun _ => by rw [(sh_modes x).1]; exact cv_refl (well_kn (h2 x hx)).1⟩) ?_
    split
    · show cvI (jnI 0 m) 0 = true
      have h0 : ∀ k, k < 7 → cvI (jnI 0 (k : Nat)) 0 = true := by decide
      obtain ⟨k, rfl, hk⟩ := kn_cases hkm
      exact h0 k hk
    · rfl
  have hti : ∀ x, (shift x).tab = x.tab ∧ (shift x).idx = x.idx := fun x => (sh_same x).2.2
  have hc : ∀ x ∈ q, (x.op == 3) = true → cvI (shift x).mode x.mode = true ∧ cvI (shift x).part x.part = true := fun x hx _ => by
    obtain ⟨k1, k2⟩ := well_kn (h2 x hx)
    rw [(sh_modes x).1, (sh_modes x).2]
    exact ⟨cv_refl k1, cv_refl k2⟩
  have hf2 : ∀ c, (lockI t m :: q.map shift).filter (ocB 2 c) = (q.filter (ocB 2 c)).map shift := fun c => (fil_lock _ rfl _).trans (filter_map' (oc_same sh_same 2 c) q)
  have hf3 : ∀ c, (lockI t m :: q.map shift).filter (ocB 3 c) = (q.filter (ocB 3 c)).map shift := fun c => (fil_lock _ rfl _).trans (filter_map' (oc_same sh_same 3 c) q)
  have hcc : ∀ c, ccB q c = true → ccB (lockI t m :: q.map shift) c = true := fun c => stg_cc hti hm (hf2 c) (hf3 c) hc
  have hcn : ∀ ops : List Int, (∀ o ∈ ops, o ≠ 1) → cnL ops (lockI t m :: q.map shift) = cnL ops q := fun ops ho => by
    rw [← cn_map hop ops q]
    unfold cnL
    rw [fil_lock _ (by
      rw [List.any_eq_false]
      intro o hoo hb
      rw [beq_iff_eq] at hb
      exact ho o hoo hb.symm)]
  have hgl : glB (lockI t m :: q.map shift) = glB q := by
    rw [← gl_map hop q]
    unfold glB
    rw [hcn [9] (by decide), hcn [10] (by decide), cn_map hop, cn_map hop, show ((lockI t m :: q.map shift).takeWhile fun x => !(x.op == 9)) = lockI t m :: (q.map shift).takeWhile fun x => !(x.op == 9) from List.takeWhile_cons_of_pos rfl]
    rfl
  have hen := h1
  unfold enB at hen
  simp only [Bool.and_eq_true, decide_eq_true_eq] at hen
  refine ck_of ?_ (fun y hy => ?_) ?_ ?_ ?_
  · have hb := en_map hop q
    rw [h1] at hb
    unfold enB at hb ⊢
    simp only [List.length_map, Bool.and_eq_true, decide_eq_true_eq] at hb
    simp only [List.length_cons, List.length_map, Nat.add_sub_cancel, Bool.and_eq_true, decide_eq_true_eq]
    refine ⟨⟨by omega, hl⟩, ?_⟩
    rw [show q.length = (q.length - 1) + 1 by omega, List.getElem?_cons_succ]
    exact hb.2
  · rw [List.length_cons, List.length_map]
    rcases List.mem_cons.1 hy with rfl | hy
    · unfold wellB fitB lockI
      simp only [hkm]
      simp [kn, mrg]
      omega
    · obtain ⟨x, hx, rfl⟩ := List.mem_map.1 hy
      exact sh_well (h2 x hx)
  · rw [← fs_map hop] at h3
    unfold fsB at h3 ⊢
    rw [show ((lockI t m :: q.map shift).takeWhile fun x => !(!(x.op == 1))) = lockI t m :: (q.map shift).takeWhile fun x => !(!(x.op == 1)) from List.takeWhile_cons_of_pos rfl]
    exact h3
  · obtain ⟨r0, r1, r2, r3⟩ := rd_parts h4
    unfold rdB
    rw [hcc 0 r0, hcc 1 r1, hcc 2 r2, hcc 3 r3]
    rfl
  · exact cg_of hcn hm hgl (stg_pk hti (hcn [6] (by decide)) (hf2 0) (hf3 0) hc) h5

end Go.Proofs.YtgndbhgpdcelpaaDoor
