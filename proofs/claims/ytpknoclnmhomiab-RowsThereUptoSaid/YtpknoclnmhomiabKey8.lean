/-
  Keys, plainly: their order is the lists' order; what comes behind is the least.
  Conditions: none.
-/
import Derived.Test.YtpknoclnmhomiabKey7
namespace Go.Proofs.Ytpknoclnmhomiab
open Go.RowKit Go.Joins Go.ChangeShapes Go.WideShapes
set_option linter.unusedVariables false

theorem ordB_cons (a b : Nat) (l r : List Nat) : ordB (a :: l) (b :: r) = if a < b then -1 else if b < a then 1 else ordB l r := rfl
theorem ordB_same (p l r : List Nat) : ordB (p ++ l) (p ++ r) = ordB l r := by
  induction p with
  | nil => rfl
  | cons a p ih => rw [List.cons_append, List.cons_append, ordB_cons, if_neg (by omega), if_neg (by omega), ih]
theorem ordB_turn : ∀ (l r : List Nat), ordB r l = -ordB l r
  | [], [] => rfl
  | [], _ :: _ => rfl
  | _ :: _, [] => rfl
  | a :: l, b :: r => by
    rw [ordB_cons, ordB_cons, ordB_turn l r]
    by_cases h1 : a < b
    · rw [if_neg (by omega), if_pos h1, if_pos h1]; rfl
    · by_cases h2 : b < a
      · rw [if_pos h2, if_neg h1, if_pos h2]
      · rw [if_neg h2, if_neg h1, if_neg h1, if_neg h2]
theorem ordB_vals (l r : List Nat) : ordB l r = -1 ∨ ordB l r = 0 ∨ ordB l r = 1 := by
  induction l generalizing r with
  | nil => cases r <;> simp [ordB]
  | cons a l ih =>
    cases r with
    | nil => simp [ordB]
    | cons b r =>
      rw [ordB_cons]
      repeat' split
      · simp
      · simp
      · exact ih r

/-- numbers of as many bytes -/
theorem ord_num : ∀ (l r x y : List Nat), l.length = r.length → (∀ a ∈ l, a < 256) → (∀ a ∈ r, a < 256) → numU l < numU r → ordB (l ++ x) (r ++ y) = -1
  | [], [], _, _, _, _, _, h => absurd h (by simp)
  | [], _ :: _, _, _, hl, _, _, _ => absurd hl (by simp)
  | _ :: _, [], _, _, hl, _, _, _ => absurd hl (by simp)
  | a :: l, b :: r, x, y, hl, h8, h8', h => by
    have hl' : l.length = r.length := by simpa using hl
    have i1 : ∀ z ∈ l, z < 256 := fun z hz => h8 z (List.mem_cons_of_mem _ hz)
    have i2 : ∀ z ∈ r, z < 256 := fun z hz => h8' z (List.mem_cons_of_mem _ hz)
    have b1 := numU_lt l.length l i1 rfl
    have b2 := numU_lt r.length r i2 rfl
    rw [numU_cons, numU_cons] at h
    rw [hl'] at b1 h
    rw [List.cons_append, List.cons_append, ordB_cons]
    by_cases c : a < b
    · rw [if_pos c]
    · rw [if_neg c]
      have hba : b = a := by
        rcases Nat.lt_or_ge b a with d | d
        · exfalso
          have hm : (b + 1) * 256 ^ r.length ≤ a * 256 ^ r.length := Nat.mul_le_mul_right _ d
          rw [Nat.add_mul, Nat.one_mul] at hm
          omega
        · omega
      subst hba
      rw [if_neg (by omega)]
      exact ord_num l r x y hl' i1 i2 (by omega)

theorem ord_be8 (u v : Nat) (hu : u < 18446744073709551616) (hv : v < 18446744073709551616) (x y : List Nat) : (u < v → ordB (be8 u ++ x) (be8 v ++ y) = -1) ∧ (v < u → ordB (be8 u ++ x) (be8 v ++ y) = 1) := by
  constructor
  · intro h
    exact ord_num _ _ x y rfl (be8_lt u) (be8_lt v) (by rw [numU_be8 u hu, numU_be8 v hv]; exact h)
  · intro h
    rw [ordB_turn, ord_num (be8 v) (be8 u) y x rfl (be8_lt v) (be8_lt u) (by rw [numU_be8 u hu, numU_be8 v hv]; exact h)]
    rfl

/-- texts -/
theorem ord_esc : ∀ (s t x y : List Nat), s ≠ t → ordB (esc s ++ 0 :: 1 :: x) (esc t ++ 0 :: 1 :: y) = ordB s t
  | [], [], _, _, h => absurd rfl h
  | [], b :: t, x, y, _ => by
    show ordB (0 :: 1 :: x) (esc (b :: t) ++ 0 :: 1 :: y) = -1
    unfold esc
    by_cases c : b = 0
    · rw [if_pos c]; rfl
    · rw [if_neg c]
      show ordB (0 :: 1 :: x) (b :: (esc t ++ 0 :: 1 :: y)) = -1
      rw [ordB_cons, if_pos (by omega)]
  | a :: s, [], x, y, _ => by
    show ordB (esc (a :: s) ++ 0 :: 1 :: x) (0 :: 1 :: y) = 1
    unfold esc
    by_cases c : a = 0
    · rw [if_pos c]; rfl
    · rw [if_neg c]
      show ordB (a :: (esc s ++ 0 :: 1 :: x)) (0 :: 1 :: y) = 1
      rw [ordB_cons, if_neg (by omega), if_pos (by omega)]
  | a :: s, b :: t, x, y, h => by
    rw [ordB_cons]
    unfold esc
    by_cases c : a = 0
    · subst c
      by_cases d : b = 0
      · subst d
        rw [if_pos rfl, if_neg (by omega), if_neg (by omega)]
        show ordB (0 :: 255 :: (esc s ++ 0 :: 1 :: x)) (0 :: 255 :: (esc t ++ 0 :: 1 :: y)) = _
        rw [ordB_cons, if_neg (by omega), if_neg (by omega), ordB_cons, if_neg (by omega), if_neg (by omega)]
        exact ord_esc s t x y (fun e => h (by rw [e]))
      · rw [if_pos rfl, if_neg d, if_pos (by omega)]
        show ordB (0 :: 255 :: (esc s ++ 0 :: 1 :: x)) (b :: (esc t ++ 0 :: 1 :: y)) = _
        rw [ordB_cons, if_pos (by omega)]
    · by_cases d : b = 0
      · subst d
        rw [if_neg c, if_pos rfl, if_neg (by omega), if_pos (by omega)]
        show ordB (a :: (esc s ++ 0 :: 1 :: x)) (0 :: 255 :: (esc t ++ 0 :: 1 :: y)) = _
        rw [ordB_cons, if_neg (by omega), if_pos (by omega)]
      · rw [if_neg c, if_neg d]
        show ordB (a :: (esc s ++ 0 :: 1 :: x)) (b :: (esc t ++ 0 :: 1 :: y)) = _
        rw [ordB_cons]
        by_cases q : a < b
        · rw [if_pos q, if_pos q]
        · rw [if_neg q, if_neg q]
          by_cases r : b < a
          · rw [if_pos r, if_pos r]
          · rw [if_neg r, if_neg r]
            have e : a = b := by omega
            subst e
            exact ord_esc s t x y (fun e => h (by rw [e]))
theorem ordB_zero : ∀ (l r : List Nat), ordB l r = 0 → l = r
  | [], [], _ => rfl
  | [], _ :: _, h => absurd (show (-1 : Int) = 0 from h) (by decide)
  | _ :: _, [], h => absurd (show (1 : Int) = 0 from h) (by decide)
  | a :: l, b :: r, h => by
    rw [ordB_cons] at h
    by_cases q : a < b
    · rw [if_pos q] at h; exact absurd h (by decide)
    · rw [if_neg q] at h
      by_cases z : b < a
      · rw [if_pos z] at h; exact absurd h (by decide)
      · rw [if_neg z] at h
        rw [show a = b by omega, ordB_zero l r h]
theorem cmp_ordB : ∀ (l r : List UInt8), Lib.compareBytes l r = ordB (l.map fun b => b.toNat) (r.map fun b => b.toNat)
  | [], [] => rfl
  | [], _ :: _ => rfl
  | _ :: _, [] => rfl
  | a :: l, b :: r => by
    rw [List.map_cons, List.map_cons, ordB_cons, ← cmp_ordB l r, Lib.compareBytes]
    simp only [UInt8.lt_iff_toNat_lt]
theorem scmp_ordB (s t : ByteArray) : SCmp s t = ordB (sl s) (sl t) := cmp_ordB _ _
theorem sl_inj {s t : ByteArray} (h : sl s = sl t) : s = t := by rw [← strB_sl s, ← strB_sl t, h]

/-- reals -/
theorem ris_place {n : Int} (hi : InI n) (h : n = PCanon n) : (rnan (ub n) = true ∧ risV n = 18444492273895866368) ∨ (rnan (ub n) = false ∧ -9218868437227405312 ≤ pl (ub n) ∧ pl (ub n) ≤ 9218868437227405312 ∧ risV n = if pl (ub n) < 0 then pl (ub n) + 9223372036854775807 else pl (ub n) + 9223372036854775808) := by
  unfold PCanon at h
  by_cases c : rnan (ub n) = true
  · left
    rw [if_pos c] at h
    refine ⟨c, ?_⟩
    rw [h]; decide
  · right
    have c' : rnan (ub n) = false := by simpa using c
    have hb := pl_bound (ub n) c'
    refine ⟨c', hb.1, hb.2, ?_⟩
    unfold pl
    unfold InI at hi
    have hub : ub n = (if n < 0 then n + 18446744073709551616 else n).toNat := by
      unfold ub
      rw [IntKind.wrap_u64]
      split <;> omega
    have hsg : sg (ub n) = decide (n < 0) := by
      unfold sg
      rw [hub]
      by_cases d : n < 0
      · rw [if_pos d]; simp [d]; omega
      · rw [if_neg d]; simp [d]; omega
    have hrg : (rg (ub n) : Int) = if n < 0 then n + 9223372036854775808 else n := by
      unfold rg
      rw [hub]
      by_cases d : n < 0
      · rw [if_pos d, if_pos d]; omega
      · rw [if_neg d, if_neg d]; omega
    rw [hsg]
    unfold risV
    by_cases d : n < 0
    · rw [if_pos d] at hrg
      simp only [d, decide_true, if_true]
      rw [hrg]
      by_cases e : n = -9223372036854775808
      · subst e; decide
      · rw [if_neg e, if_pos (by omega)]; omega
    · rw [if_neg d] at hrg
      simp only [d, decide_false, Bool.false_eq_true, if_false]
      rw [hrg, if_neg (by omega), if_neg (by omega)]

theorem ris_pl {n : Int} (hi : InI n) (h : n = PCanon n) : (PPlace n = 9223372036854775807 ∧ risV n = 18444492273895866368) ∨ (-9218868437227405312 ≤ PPlace n ∧ PPlace n < 0 ∧ risV n = PPlace n + 9223372036854775807) ∨ (0 ≤ PPlace n ∧ PPlace n ≤ 9218868437227405312 ∧ risV n = PPlace n + 9223372036854775808) := by
  unfold PPlace
  rcases ris_place hi h with ⟨a1, a2⟩ | ⟨a1, a2, a3, a4⟩
  · rw [if_pos a1]; exact .inl ⟨rfl, a2⟩
  · right
    rw [if_neg (by rw [a1]; decide)]
    by_cases c : pl (ub n) < 0
    · rw [if_pos c] at a4; exact .inl ⟨a2, c, a4⟩
    · rw [if_neg c] at a4; exact .inr ⟨by omega, a3, a4⟩
theorem ris_order {n m : Int} (hn : InI n) (hm : InI m) (h : n = PCanon n) (h' : m = PCanon m) : POrder n m = if risV n < risV m then -1 else if risV m < risV n then 1 else 0 := by
  have e : POrder n m = if PPlace n < PPlace m then -1 else if PPlace m < PPlace n then 1 else 0 := rfl
  rw [e]
  have h1 := ris_pl hn h
  have h2 := ris_pl hm h'
  generalize PPlace n = p at *
  generalize PPlace m = q at *
  generalize risV n = a at *
  generalize risV m = b at *
  clear hn hm h h' e
  by_cases c : p < q
  · have c2 : a < b := by omega
    rw [if_pos c, if_pos c2]
  · have c2 : ¬ a < b := by omega
    rw [if_neg c, if_neg c2]
    by_cases d : q < p
    · have d2 : b < a := by omega
      rw [if_pos d, if_pos d2]
    · have d2 : ¬ b < a := by omega
      rw [if_neg d, if_neg d2]

/-! values and lists -/
theorem ord_vb (v u : Vt) (hv : RV v) (hu : RV u) : (VCmp v.1 v.2.1 v.2.2 u.1 u.2.1 u.2.2 = 0 ∧ vb v.1 v.2.1 v.2.2 = vb u.1 u.2.1 u.2.2) ∨
    (VCmp v.1 v.2.1 v.2.2 u.1 u.2.1 u.2.2 ≠ 0 ∧ ∀ x y, ordB (vb v.1 v.2.1 v.2.2 ++ x) (vb u.1 u.2.1 u.2.2 ++ y) = VCmp v.1 v.2.1 v.2.2 u.1 u.2.1 u.2.2) := by
  obtain ⟨k, n, s⟩ := v
  obtain ⟨k', n', s'⟩ := u
  obtain ⟨hc, hi⟩ := hv
  obtain ⟨hc', hi'⟩ := hu
  simp only at hc hi hc' hi' ⊢
  obtain ⟨h1, h2, h3, h4, h5⟩ := vck hc
  obtain ⟨g1, g2, g3, g4, g5⟩ := vck hc'
  have hv : ∀ k n s x, vb k n s ++ x = (k + 1).toNat :: ((vb k n s).tail ++ x) := fun _ _ _ _ => rfl
  unfold VCmp
  by_cases c1 : k < k'
  · right
    rw [if_pos c1]
    refine ⟨by decide, fun x y => ?_⟩
    rw [hv, hv, ordB_cons, if_pos (by omega)]
  · rw [if_neg c1]
    by_cases c2 : k' < k
    · right
      rw [if_pos c2]
      refine ⟨by decide, fun x y => ?_⟩
      rw [hv, hv, ordB_cons, if_neg (by omega), if_pos (by omega)]
    · rw [if_neg c2]
      have e : k' = k := by omega
      subst e
      rcases kinds5 h1 h2 with rfl | rfl | rfl | rfl | rfl
      · left; exact ⟨rfl, rfl⟩
      · rw [if_neg (by decide), if_neg (by decide), if_neg (by decide)]
        have hn : n = 0 ∨ n = 1 := by simpa [RightNum] using h3
        have hn' : n' = 0 ∨ n' = 1 := by simpa [RightNum] using g3
        rcases hn with rfl | rfl <;> rcases hn' with rfl | rfl
        · left; exact ⟨rfl, rfl⟩
        · right; exact ⟨by decide, fun x y => rfl⟩
        · right; exact ⟨by decide, fun x y => rfl⟩
        · left; exact ⟨rfl, rfl⟩
      · rw [if_neg (by decide), if_neg (by decide), if_neg (by decide)]
        unfold InI at hi hi'
        have hb := ord_be8 (n + 9223372036854775808).toNat (n' + 9223372036854775808).toNat (by omega) (by omega)
        unfold cmpI
        by_cases q : n < n'
        · right
          rw [if_pos q]
          refine ⟨by decide, fun x y => ?_⟩
          rw [vb2, vb2, List.append_assoc, List.append_assoc, ordB_same]
          exact (hb x y).1 (by omega)
        · rw [if_neg q]
          by_cases z : n' < n
          · right
            rw [if_pos z]
            refine ⟨by decide, fun x y => ?_⟩
            rw [vb2, vb2, List.append_assoc, List.append_assoc, ordB_same]
            exact (hb x y).2 (by omega)
          · left
            rw [if_neg z]
            refine ⟨rfl, ?_⟩
            rw [vb2, vb2, show n = n' by omega]
      · rw [if_neg (by decide), if_pos rfl]
        have ho := ris_order hi hi' (rgt3 hi h3) (rgt3 hi' g3)
        have r1 := ris_in hi
        have r2 := ris_in hi'
        have hb := ord_be8 (risV n).toNat (risV n').toNat (by omega) (by omega)
        rw [ho]
        by_cases q : risV n < risV n'
        · right
          rw [if_pos q]
          refine ⟨by decide, fun x y => ?_⟩
          rw [vb3, vb3, List.append_assoc, List.append_assoc, ordB_same]
          exact (hb x y).1 (by omega)
        · rw [if_neg q]
          by_cases z : risV n' < risV n
          · right
            rw [if_pos z]
            refine ⟨by decide, fun x y => ?_⟩
            rw [vb3, vb3, List.append_assoc, List.append_assoc, ordB_same]
            exact (hb x y).2 (by omega)
          · left
            rw [if_neg z]
            refine ⟨rfl, ?_⟩
            rw [vb3, vb3, show risV n = risV n' by omega]
      · rw [if_neg (by decide), if_neg (by decide), if_pos rfl, scmp_ordB]
        by_cases q : sl s = sl s'
        · left
          rw [q]
          refine ⟨?_, ?_⟩
          · have := ordB_same (sl s') [] []
            rw [List.append_nil] at this
            rw [this]; rfl
          · rw [vb4, vb4, q]
        · right
          refine ⟨fun e => q (ordB_zero _ _ e), fun x y => ?_⟩
          have e : ∀ z w : List Nat, [5] ++ (z ++ [0, 1]) ++ w = [5] ++ (z ++ 0 :: 1 :: w) := fun z w => by simp
          rw [vb4, vb4, e, e, ordB_same]
          exact ord_esc _ _ x y q

theorem keyL_ne (v : Vt) (l : List Vt) : ∃ c t, keyL (v :: l) = c :: t := ⟨_, _, rfl⟩
theorem ord_keys : ∀ (l r : List Vt), (∀ v ∈ l, RV v) → (∀ v ∈ r, RV v) → ∀ (kf nf kf' nf' : Nat → Int) (sf sf' : Nat → ByteArray) (i : Nat),
    (∀ j v, l[j]? = some v → v = (kf (i + j), nf (i + j), sf (i + j))) → (∀ j v, r[j]? = some v → v = (kf' (i + j), nf' (i + j), sf' (i + j))) →
    ordB (keyL l) (keyL r) = firstNZ (fun i => VCmp (kf i) (nf i) (sf i) (kf' i) (nf' i) (sf' i)) (cmpI l.length r.length) i (min l.length r.length)
  | [], [], _, _, _, _, _, _, _, _, _, _, _ => rfl
  | [], v :: r, _, _, _, _, _, _, _, _, i, _, _ => by
    obtain ⟨c, t, e⟩ := keyL_ne v r
    rw [e]
    show (-1 : Int) = firstNZ _ (cmpI 0 ((r.length + 1 : Nat) : Int)) i (min 0 (r.length + 1))
    rw [Nat.zero_min]
    show (-1 : Int) = cmpI 0 ((r.length + 1 : Nat) : Int)
    unfold cmpI
    rw [if_pos (by omega)]
  | v :: l, [], _, _, _, _, _, _, _, _, i, _, _ => by
    obtain ⟨c, t, e⟩ := keyL_ne v l
    rw [e]
    show (1 : Int) = firstNZ _ (cmpI ((l.length + 1 : Nat) : Int) 0) i (min (l.length + 1) 0)
    rw [Nat.min_zero]
    show (1 : Int) = cmpI ((l.length + 1 : Nat) : Int) 0
    unfold cmpI
    rw [if_neg (by omega), if_pos (by omega)]
  | v :: l, u :: r, hl, hr, kf, nf, kf', nf', sf, sf', i, h1, h2 => by
    have ev := h1 0 v rfl
    have eu := h2 0 u rfl
    rw [Nat.add_zero] at ev eu
    have ih := ord_keys l r (fun x hx => hl x (List.mem_cons_of_mem _ hx)) (fun x hx => hr x (List.mem_cons_of_mem _ hx)) kf nf kf' nf' sf sf' (i + 1)
      (fun j x hx => by rw [show i + 1 + j = i + (j + 1) by omega]; exact h1 (j + 1) x hx) (fun j x hx => by rw [show i + 1 + j = i + (j + 1) by omega]; exact h2 (j + 1) x hx)
    have hc := ord_vb v u (hl v (List.mem_cons_self ..)) (hr u (List.mem_cons_self ..))
    have eq : VCmp v.1 v.2.1 v.2.2 u.1 u.2.1 u.2.2 = VCmp (kf i) (nf i) (sf i) (kf' i) (nf' i) (sf' i) := by rw [ev, eu]
    rw [List.length_cons, List.length_cons, Nat.succ_min_succ]
    show ordB (vb v.1 v.2.1 v.2.2 ++ keyL l) (vb u.1 u.2.1 u.2.2 ++ keyL r) = if VCmp (kf i) (nf i) (sf i) (kf' i) (nf' i) (sf' i) = 0 then firstNZ _ _ (i + 1) (min l.length r.length) else VCmp (kf i) (nf i) (sf i) (kf' i) (nf' i) (sf' i)
    rw [← eq]
    rcases hc with ⟨c1, c2⟩ | ⟨c1, c2⟩
    · rw [if_pos c1, c2, ordB_same, ih]
      have hcm : cmpI ((l.length + 1 : Nat) : Int) ((r.length + 1 : Nat) : Int) = cmpI (l.length : Int) (r.length : Int) := by
        unfold cmpI
        by_cases a : (l.length : Int) < r.length
        · rw [if_pos (by omega), if_pos a]
        · rw [if_neg (by omega), if_neg a]
          by_cases b : (r.length : Int) < l.length
          · rw [if_pos (by omega), if_pos b]
          · rw [if_neg (by omega), if_neg b]
      rw [hcm]
    · rw [if_neg c1, c2]

/-- the values that lie there, as a list -/
def vlist (kf nf : Nat → Int) (sf : Nat → ByteArray) (m : Nat) : List Vt := (List.range m).map fun i => (kf i, nf i, sf i)
theorem vlist_length (kf nf : Nat → Int) (sf : Nat → ByteArray) (m : Nat) : (vlist kf nf sf m).length = m := by simp [vlist]
theorem vlist_at (kf nf : Nat → Int) (sf : Nat → ByteArray) (m j : Nat) (v : Vt) (h : (vlist kf nf sf m)[j]? = some v) : v = (kf j, nf j, sf j) := by
  unfold vlist at h
  rw [List.getElem?_map] at h
  have hj : j < m := by
    rcases Nat.lt_or_ge j m with c | c
    · exact c
    · rw [List.getElem?_eq_none (by simpa using c)] at h; cases h
  rw [List.getElem?_range hj] at h
  exact (Option.some.inj h).symm
theorem vlist_succ (kf nf : Nat → Int) (sf : Nat → ByteArray) (m : Nat) : vlist kf nf sf (m + 1) = vlist kf nf sf m ++ [(kf m, nf m, sf m)] := by
  unfold vlist
  rw [List.range_succ, List.map_append]
  rfl
theorem keyB_list (kf nf : Nat → Int) (sf : Nat → ByteArray) : ∀ m, keyB kf nf sf m = keyL (vlist kf nf sf m)
  | 0 => rfl
  | m + 1 => by
    rw [vlist_succ, keyL_app, ← keyB_list kf nf sf m]
    show keyB kf nf sf m ++ vb (kf m) (nf m) (sf m) = keyB kf nf sf m ++ (vb (kf m) (nf m) (sf m) ++ [])
    rw [List.append_nil]
theorem vlist_mem (kf nf : Nat → Int) (sf : Nat → ByteArray) (m : Nat) (h : ∀ i, i < m → VCheck (kf i) (nf i) (sf i) = 0 ∧ InI (nf i)) : ∀ v ∈ vlist kf nf sf m, RV v := by
  intro v hv
  obtain ⟨i, hi, rfl⟩ := List.mem_map.1 hv
  exact h i (List.mem_range.1 hi)

/-- P5.4, plainly -/
theorem keys_order (kf nf : Nat → Int) (sf : Nat → ByteArray) (kf' nf' : Nat → Int) (sf' : Nat → ByteArray) (m n : Nat) (h : ∀ i, i < m → VCheck (kf i) (nf i) (sf i) = 0 ∧ InI (nf i)) (h' : ∀ i, i < n → VCheck (kf' i) (nf' i) (sf' i) = 0 ∧ InI (nf' i)) :
    ordB (keyB kf nf sf m) (keyB kf' nf' sf' n) = firstNZ (fun i => VCmp (kf i) (nf i) (sf i) (kf' i) (nf' i) (sf' i)) (cmpI m n) 0 (min m n) := by
  rw [keyB_list, keyB_list]
  have := ord_keys (vlist kf nf sf m) (vlist kf' nf' sf' n) (vlist_mem _ _ _ _ h) (vlist_mem _ _ _ _ h') kf nf kf' nf' sf sf' 0
    (fun j v hv => by rw [Nat.zero_add]; exact vlist_at _ _ _ _ _ _ hv) (fun j v hv => by rw [Nat.zero_add]; exact vlist_at _ _ _ _ _ _ hv)
  rw [vlist_length, vlist_length] at this
  exact this
theorem keys_begin (kf nf : Nat → Int) (sf : Nat → ByteArray) (m : Nat) : (keyB kf nf sf (m + 1)).take (keyB kf nf sf m).length = keyB kf nf sf m := by
  show (keyB kf nf sf m ++ _).take _ = _
  rw [List.take_append_of_le_length (Nat.le_refl _), List.take_length]
/-- the keys of two lists one behind the other -/
theorem keys_join (l r : List Vt) : keyL (l ++ r) = keyL l ++ keyL r := keyL_app l r
theorem vb_lt (k n : Int) (s : ByteArray) (h : 0 ≤ k ∧ k ≤ 4) : ∀ x ∈ vb k n s, x < 256 := by
  have he : ∀ t : List Nat, (∀ x ∈ t, x < 256) → ∀ x ∈ esc t, x < 256 := by
    intro t
    induction t with
    | nil => intro _ x hx; cases hx
    | cons c t ih =>
      intro ht x hx
      unfold esc at hx
      rcases List.mem_append.1 hx with hx | hx
      · split at hx
        · simp only [List.mem_cons, List.not_mem_nil, or_false] at hx; omega
        · rw [List.mem_singleton] at hx; subst hx; exact ht _ (List.mem_cons_self ..)
      · exact ih (fun y hy => ht y (List.mem_cons_of_mem _ hy)) x hx
  intro x hx
  unfold vb at hx
  rcases List.mem_cons.1 hx with rfl | hx
  · omega
  · split at hx
    · rw [List.mem_singleton] at hx; omega
    · split at hx
      · exact be8_lt _ x hx
      · split at hx
        · exact be8_lt _ x hx
        · split at hx
          · rcases List.mem_append.1 hx with hx | hx
            · exact he _ (sl_lt s) x hx
            · simp only [List.mem_cons, List.not_mem_nil, or_false] at hx; omega
          · cases hx
theorem keyB_lt (kf nf : Nat → Int) (sf : Nat → ByteArray) : ∀ m, (∀ i, i < m → 0 ≤ kf i ∧ kf i ≤ 4) → ∀ x ∈ keyB kf nf sf m, x < 256
  | 0, _, x, hx => by cases hx
  | m + 1, h, x, hx => by
    rcases List.mem_append.1 hx with hx | hx
    · exact keyB_lt kf nf sf m (fun i hi => h i (by omega)) x hx
    · exact vb_lt _ _ _ (h m (by omega)) x hx

/-! what comes behind -/
theorem all255 : ∀ (t o : List Nat), (∀ x ∈ t, x = 255) → (∀ x ∈ o, x < 256) → ordB o t ≠ -1 → o.take t.length = t
  | [], o, _, _, _ => by simp
  | c :: t, [], _, _, h => absurd rfl h
  | c :: t, y :: o, h1, h2, h => by
    have hc := h1 c (List.mem_cons_self ..)
    have hy := h2 y (List.mem_cons_self ..)
    rw [ordB_cons] at h
    by_cases q : y < c
    · rw [if_pos q] at h; exact absurd rfl h
    · rw [if_neg q, if_neg (by omega)] at h
      rw [List.length_cons, List.take_succ_cons, show y = c by omega, all255 t o (fun x hx => h1 x (List.mem_cons_of_mem _ hx)) (fun x hx => h2 x (List.mem_cons_of_mem _ hx)) h]
theorem beh_parts {l : List Nat} (h : stripN l l.length ≠ 0) : ∃ p x t, l = p ++ x :: t ∧ x ≠ 255 ∧ (∀ y ∈ t, y = 255) ∧ behB l = p ++ [x + 1] := by
  obtain ⟨k, hk⟩ : ∃ k, stripN l l.length = k + 1 := ⟨stripN l l.length - 1, by omega⟩
  have hle := stripN_le l l.length
  have hlt : k < l.length := by omega
  have hx : l[k]? = some l[k] := List.getElem?_eq_getElem hlt
  refine ⟨l.take k, l[k], l.drop (k + 1), ?_, ?_, ?_, behB_of hk hx⟩
  · rw [← List.drop_eq_getElem_cons hlt, List.take_append_drop]
  · intro e
    exact stripN_at l _ k hk (by rw [hx, e])
  · intro y hy
    obtain ⟨i, hi⟩ := List.getElem?_of_mem hy
    rw [List.getElem?_drop] at hi
    have hil : k + 1 + i < l.length := (List.getElem?_eq_some_iff.1 hi).1
    have := stripN_255 l l.length (k + 1 + i) (by omega) hil
    rw [hi] at this
    exact Option.some.inj this
theorem beh1 {l : List Nat} (h : stripN l l.length ≠ 0) (more : List Nat) : ordB (l ++ more) (behB l) = -1 := by
  obtain ⟨p, x, t, e, _, _, hb⟩ := beh_parts h
  rw [hb, e, List.append_assoc, ordB_same]
  show ordB (x :: (t ++ more)) [x + 1] = -1
  rw [ordB_cons, if_pos (by omega)]
theorem beh2_aux : ∀ (p : List Nat) (x : Nat) (t o : List Nat), x ≠ 255 → (∀ y ∈ t, y = 255) → (∀ y ∈ o, y < 256) → o.take (p ++ x :: t).length ≠ p ++ x :: t → ordB o (p ++ x :: t) ≠ -1 → 0 ≤ ordB o (p ++ [x + 1])
  | [], x, t, [], _, _, _, _, h => absurd rfl h
  | [], x, t, y :: o, h1, h2, h3, h4, h => by
    have hy := h3 y (List.mem_cons_self ..)
    show 0 ≤ ordB (y :: o) [x + 1]
    have h' : ordB (y :: o) (x :: t) ≠ -1 := h
    rw [ordB_cons] at h' ⊢
    by_cases a : y < x
    · rw [if_pos a] at h'; exact absurd rfl h'
    · rw [if_neg a] at h'
      by_cases b : x < y
      · rw [if_neg (by omega)]
        by_cases c : x + 1 < y
        · rw [if_pos c]; decide
        · rw [if_neg c]
          cases o <;> simp [ordB]
      · rw [if_neg b] at h'
        have e : y = x := by omega
        subst e
        have := all255 t o h2 (fun z hz => h3 z (List.mem_cons_of_mem _ hz)) h'
        exfalso
        apply h4
        show (y :: o).take (t.length + 1) = y :: t
        rw [List.take_succ_cons, this]
  | c :: p, x, t, [], _, _, _, _, h => absurd rfl h
  | c :: p, x, t, y :: o, h1, h2, h3, h4, h => by
    have h' : ordB (y :: o) (c :: (p ++ x :: t)) ≠ -1 := h
    show 0 ≤ ordB (y :: o) (c :: (p ++ [x + 1]))
    rw [ordB_cons] at h' ⊢
    by_cases a : y < c
    · rw [if_pos a] at h'; exact absurd rfl h'
    · rw [if_neg a] at h' ⊢
      by_cases b : c < y
      · rw [if_pos b]; decide
      · rw [if_neg b] at h' ⊢
        have e : y = c := by omega
        subst e
        refine beh2_aux p x t o h1 h2 (fun z hz => h3 z (List.mem_cons_of_mem _ hz)) (fun q => h4 ?_) h'
        show (y :: o).take ((p ++ x :: t).length + 1) = y :: (p ++ x :: t)
        rw [List.take_succ_cons, q]
theorem beh2 {l : List Nat} (h : stripN l l.length ≠ 0) (o : List Nat) (h3 : ∀ y ∈ o, y < 256) (h4 : o.take l.length ≠ l) (h5 : ordB o l ≠ -1) : 0 ≤ ordB o (behB l) := by
  obtain ⟨p, x, t, e, e1, e2, hb⟩ := beh_parts h
  rw [hb]
  rw [e] at h4 h5
  exact beh2_aux p x t o e1 e2 h3 h4 h5

end Go.Proofs.Ytpknoclnmhomiab
