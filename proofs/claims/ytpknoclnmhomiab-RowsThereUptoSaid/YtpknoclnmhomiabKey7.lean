/-
  Keys, plainly: what a key's bytes are read as, what makes them, and their order.
  Conditions: none.
-/
import Derived.Test.YtpknoclnmhomiabKey5
import Derived.Test.YtpknoclnmhomiabByt3
import Derived.Test.YtpknoclnmhomiabVal4
import Derived.Laws.Closers25b
namespace Go.Proofs.Ytpknoclnmhomiab
open Go.RowKit Go.Joins Go.ChangeShapes Go.WideShapes
set_option linter.unusedVariables false

/-! numbers -/
theorem be8_lt (u : Nat) : ∀ x ∈ be8 u, x < 256 := by
  intro x hx
  unfold be8 at hx
  simp only [List.mem_cons, List.not_mem_nil, or_false] at hx
  omega
theorem foldl_num (l : List Nat) : ∀ u, l.foldl (fun u c => u * 256 + c) u = u * 256 ^ l.length + numU l := by
  induction l with
  | nil => intro u; simp [numU]
  | cons a l ih =>
    intro u
    have e : numU (a :: l) = l.foldl (fun u c => u * 256 + c) (0 * 256 + a) := rfl
    rw [e, List.foldl_cons, ih, ih, List.length_cons, Nat.pow_succ]
    rw [Nat.add_mul, Nat.zero_mul, Nat.zero_add, Nat.mul_assoc, Nat.mul_comm 256]
    omega
theorem numU_cons (a : Nat) (l : List Nat) : numU (a :: l) = a * 256 ^ l.length + numU l := by
  have e : numU (a :: l) = l.foldl (fun u c => u * 256 + c) (0 * 256 + a) := rfl
  rw [e, foldl_num]
  simp
theorem numU_be8 (u : Nat) (h : u < 18446744073709551616) : numU (be8 u) = u := by
  unfold be8
  simp only [numU_cons, List.length_cons, List.length_nil, Nat.reduceAdd, Nat.reducePow]
  rw [show numU [] = 0 from rfl]
  omega
theorem be8_numU (l : List Nat) (hl : l.length = 8) (h8 : ∀ x ∈ l, x < 256) : be8 (numU l) = l := by
  match l, hl with
  | [a, b, c, d, e, f, g, i], _ =>
    have ha := h8 a (by simp)
    have hb := h8 b (by simp)
    have hc := h8 c (by simp)
    have hd := h8 d (by simp)
    have he := h8 e (by simp)
    have hf := h8 f (by simp)
    have hg := h8 g (by simp)
    have hi := h8 i (by simp)
    have hn : numU [a, b, c, d, e, f, g, i] = a * 72057594037927936 + (b * 281474976710656 + (c * 1099511627776 + (d * 4294967296 + (e * 16777216 + (f * 65536 + (g * 256 + i)))))) := by
      simp only [numU_cons, List.length_cons, List.length_nil, Nat.reduceAdd, Nat.reducePow]
      rw [show numU [] = 0 from rfl]
      omega
    rw [hn]
    unfold be8
    refine List.cons_eq_cons.2 ⟨by omega, List.cons_eq_cons.2 ⟨by omega, List.cons_eq_cons.2 ⟨by omega, List.cons_eq_cons.2 ⟨by omega, List.cons_eq_cons.2 ⟨by omega, List.cons_eq_cons.2 ⟨by omega, List.cons_eq_cons.2 ⟨by omega, List.cons_eq_cons.2 ⟨by omega, rfl⟩⟩⟩⟩⟩⟩⟩⟩

/-! texts -/
theorem txt_esc : ∀ (t : List Nat) (n : Nat) (r : List Nat), n + t.length ≤ 200 → txt n (esc t ++ 0 :: 1 :: r) = (0, t, r)
  | [], n, r, _ => by
    show txt n (0 :: 1 :: r) = _
    rw [txt_0, if_pos rfl]
  | c :: t, n, r, h => by
    rw [List.length_cons] at h
    have ih := txt_esc t (n + 1) r (by omega)
    unfold esc
    by_cases c0 : c = 0
    · subst c0
      rw [if_pos rfl]
      show txt n (0 :: 255 :: (esc t ++ 0 :: 1 :: r)) = _
      rw [txt_0, if_neg (by decide), if_neg (by decide), if_neg (by omega), ih]
      rfl
    · rw [if_neg c0]
      show txt n (c :: (esc t ++ 0 :: 1 :: r)) = _
      rw [txt_c c0, if_neg (by omega), ih]
      rfl
theorem txt_back : ∀ (l : List Nat) (n : Nat), n ≤ 200 → (txt n l).1 = 0 → l = esc (txt n l).2.1 ++ 0 :: 1 :: (txt n l).2.2 ∧ n + (txt n l).2.1.length ≤ 200
  | [], n, _, h => by rw [txt_nil] at h; exact absurd h (by decide)
  | c :: r, n, hn, h => by
    by_cases hc : c = 0
    · subst hc
      cases r with
      | nil => rw [txt_01] at h; exact absurd h (by decide)
      | cons x q =>
        rw [txt_0] at h ⊢
        by_cases h1 : x = 1
        · rw [if_pos h1, h1]; exact ⟨rfl, hn⟩
        · rw [if_neg h1] at h ⊢
          by_cases h2 : x ≠ 255
          · rw [if_pos h2] at h; exact absurd h (by decide)
          · rw [if_neg h2] at h ⊢
            by_cases h3 : n = 200
            · rw [if_pos h3] at h; exact absurd h (by decide)
            · rw [if_neg h3] at h ⊢
              unfold tcons at h ⊢
              by_cases h4 : (txt (n + 1) q).1 = 0
              · rw [if_pos h4]
                obtain ⟨i1, i2⟩ := txt_back q (n + 1) (by omega) h4
                have h5 : x = 255 := by omega
                refine ⟨?_, by simp only [List.length_cons]; omega⟩
                subst h5
                show _ = esc (0 :: (txt (n + 1) q).2.1) ++ 0 :: 1 :: (txt (n + 1) q).2.2
                rw [esc, if_pos rfl, List.append_assoc, ← i1]
                rfl
              · rw [if_neg h4] at h; exact absurd h h4
    · rw [txt_c hc] at h ⊢
      by_cases h3 : n = 200
      · rw [if_pos h3] at h; exact absurd h (by decide)
      · rw [if_neg h3] at h ⊢
        unfold tcons at h ⊢
        by_cases h4 : (txt (n + 1) r).1 = 0
        · rw [if_pos h4]
          obtain ⟨i1, i2⟩ := txt_back r (n + 1) (by omega) h4
          refine ⟨?_, by simp only [List.length_cons]; omega⟩
          show _ = esc (c :: (txt (n + 1) r).2.1) ++ 0 :: 1 :: (txt (n + 1) r).2.2
          rw [esc, if_neg hc, List.append_assoc, ← i1]
          rfl
        · rw [if_neg h4] at h; exact absurd h h4

/-! values -/
/-- a right value -/
def RV (v : Vt) : Prop := VCheck v.1 v.2.1 v.2.2 = 0 ∧ InI v.2.1
theorem em_of {s : ByteArray} (h : s.toList = []) : s = Em := by
  rw [(toList_nil_iff_emptyBytes s).1 h]
  rfl
theorem vck {k n : Int} {s : ByteArray} (h : VCheck k n s = 0) : 0 ≤ k ∧ k ≤ 4 ∧ RightNum k n = true ∧ (k ≠ 4 → s = Em) ∧ s.size ≤ 200 := by
  unfold VCheck at h
  by_cases h1 : k < 0 ∨ 4 < k
  · rw [if_pos h1] at h; exact absurd h (by decide)
  · rw [if_neg h1] at h
    by_cases h2 : RightNum k n = false
    · rw [if_pos h2] at h; exact absurd h (by decide)
    · rw [if_neg h2] at h
      by_cases h3 : k ≠ 4 ∧ s.toList ≠ []
      · rw [if_pos h3] at h; exact absurd h (by decide)
      · rw [if_neg h3] at h
        by_cases h4 : 200 < s.size
        · rw [if_pos h4] at h; exact absurd h (by decide)
        · exact ⟨by omega, by omega, by simpa using h2, fun g => em_of (by simpa [g] using h3), by omega⟩

/-- what is read again: 0 for a real -0 -/
def canV (v : Vt) : Vt := (v.1, if v.1 = 3 ∧ v.2.1 = -9223372036854775808 then 0 else v.2.1, v.2.2)
theorem kinds5 {k : Int} (h1 : 0 ≤ k) (h2 : k ≤ 4) : k = 0 ∨ k = 1 ∨ k = 2 ∨ k = 3 ∨ k = 4 := by omega
theorem rgt3 {n : Int} (hi : InI n) (h : RightNum 3 n = true) : n = PCanon n := by
  unfold RightNum at h
  rw [if_neg (by decide), if_neg (by decide), if_pos rfl] at h
  have e : n = RCanon n := by simpa using h
  rw [canon_eq hi] at e
  exact e
theorem rgt3' {n : Int} (hi : InI n) (h : n = PCanon n) : RightNum 3 n = true := by
  unfold RightNum
  rw [if_neg (by decide), if_neg (by decide), if_pos rfl, canon_eq hi, ← h]
  simp
theorem real_ris {n : Int} (hi : InI n) (h : n ≠ -9223372036854775808) : realN (risV n).toNat = n := by
  unfold InI at hi
  unfold risV realN
  rw [if_neg h]
  by_cases c : n < 0
  · rw [if_pos c, if_pos (by omega)]; omega
  · rw [if_neg c, if_neg (by omega)]; omega
theorem ris_real {u : Nat} (hu : u < 18446744073709551616) (h : realN u ≠ -9223372036854775808) : (risV (realN u)).toNat = u := by
  unfold realN at h ⊢
  by_cases c : u < 9223372036854775808
  · rw [if_pos c] at h ⊢
    unfold risV
    rw [if_neg h, if_pos (by omega)]; omega
  · rw [if_neg c] at h ⊢
    unfold risV
    rw [if_neg h, if_neg (by omega)]; omega

theorem pc0 : (0 : Int) = PCanon 0 := by decide +kernel
theorem real0 : realN (risV (-9223372036854775808)).toNat = 0 := by decide +kernel

theorem take8 (u : Nat) (r : List Nat) : (be8 u ++ r).take 8 = be8 u := rfl
theorem drop8 (u : Nat) (r : List Nat) : (be8 u ++ r).drop 8 = r := rfl
theorem dec_vb (v : Vt) (h : RV v) (r : List Nat) : decOne (vb v.1 v.2.1 v.2.2 ++ r) = (0, canV v, r) := by
  obtain ⟨k, n, s⟩ := v
  obtain ⟨hc, hi⟩ := h
  simp only at hc hi
  obtain ⟨h1, h2, h3, h4, h5⟩ := vck hc
  have hI := hi
  unfold InI at hi
  unfold canV
  simp only
  rcases kinds5 h1 h2 with rfl | rfl | rfl | rfl | rfl
  · obtain rfl := h4 (by decide)
    have hn : n = 0 := by simpa [RightNum] using h3
    subst hn
    rfl
  · obtain rfl := h4 (by decide)
    have hn : n = 0 ∨ n = 1 := by simpa [RightNum] using h3
    rcases hn with rfl | rfl
    · rw [vb1]
      show decOne (2 :: 0 :: r) = _
      rw [decOne_cons]
      have hl : ¬ (0 :: r).length < nB 2 := by simp [nB]
      rw [if_neg (by decide), if_neg (by decide), if_neg (by decide), if_neg hl]
      rfl
    · rw [vb1]
      show decOne (2 :: 1 :: r) = _
      rw [decOne_cons]
      have hl : ¬ (1 :: r).length < nB 2 := by simp [nB]
      rw [if_neg (by decide), if_neg (by decide), if_neg (by decide), if_neg hl]
      rfl
  · obtain rfl := h4 (by decide)
    rw [vb2]
    show decOne (3 :: (be8 _ ++ r)) = _
    rw [decOne_cons]
    have hl : ¬ (be8 (n + 9223372036854775808).toNat ++ r).length < nB 3 := by simp [nB, be8]
    rw [if_neg (by decide), if_neg (by decide), if_neg (by decide), if_neg hl]
    rw [show nB 3 = 8 from rfl, take8, drop8, numU_be8 _ (by omega)]
    have hk : numK (((3 : Nat) : Int) - 1) (n + 9223372036854775808).toNat = (n, 0) := by
      show (((n + 9223372036854775808).toNat : Int) - 9223372036854775808, (0 : Int)) = (n, 0)
      rw [Int.toNat_of_nonneg (by omega)]
      congr 1
      omega
    rw [hk, if_pos rfl, if_neg (by rintro ⟨h, _⟩; exact absurd h (by decide))]
    rfl
  · obtain rfl := h4 (by decide)
    have hr := ris_in hI
    rw [vb3]
    show decOne (4 :: (be8 _ ++ r)) = _
    rw [decOne_cons]
    have hl : ¬ (be8 (risV n).toNat ++ r).length < nB 4 := by simp [nB, be8]
    rw [if_neg (by decide), if_neg (by decide), if_neg (by decide), if_neg hl]
    rw [show nB 4 = 8 from rfl, take8, drop8, numU_be8 _ (by omega)]
    have hk : numK (((4 : Nat) : Int) - 1) (risV n).toNat = (if (3 : Int) = 3 ∧ n = -9223372036854775808 then 0 else n, 0) := by
      show (if realN (risV n).toNat = -9223372036854775808 ∨ realN (risV n).toNat ≠ PCanon (realN (risV n).toNat) then ((0 : Int), (2 : Int)) else (realN (risV n).toNat, 0)) = _
      by_cases c : n = -9223372036854775808
      · subst c
        rw [real0, if_neg (by rintro (h | h); exact absurd h (by decide); exact h pc0), if_pos ⟨rfl, rfl⟩]
      · rw [real_ris hI c, if_neg (by rintro (h | h); exact c h; exact h (rgt3 hI h3)), if_neg (fun h => c h.2)]
    rw [hk, if_pos rfl]
    rfl
  · have hn : n = 0 := by simpa [RightNum] using h3
    subst hn
    rw [vb4]
    show decOne (5 :: (esc (sl s) ++ [0, 1] ++ r)) = _
    rw [decOne_cons, if_neg (by decide), if_neg (by decide), if_pos rfl, List.append_assoc]
    rw [show esc (sl s) ++ ([0, 1] ++ r) = esc (sl s) ++ 0 :: 1 :: r from rfl, txt_esc (sl s) 0 r (by rw [sl_length]; omega), if_pos rfl, if_neg (by rintro ⟨h, _⟩; exact absurd h (by decide))]
    show ((0 : Int), ((4 : Int), (0 : Int), strB (sl s)), r) = _
    rw [strB_sl]

/-- a list's key -/
def keyL : List Vt → List Nat
  | [] => []
  | v :: r => vb v.1 v.2.1 v.2.2 ++ keyL r
theorem keyL_app (l r : List Vt) : keyL (l ++ r) = keyL l ++ keyL r := by
  induction l with
  | nil => rfl
  | cons v l ih => simp only [List.cons_append, keyL, ih, List.append_assoc]
theorem dec_key : ∀ (l : List Vt), (∀ v ∈ l, RV v) → decK (keyL l) = (l.map canV, 0)
  | [], _ => rfl
  | v :: r, h => by
    have h1 := dec_vb v (h v (List.mem_cons_self ..)) (keyL r)
    have ih := dec_key r (fun x hx => h x (List.mem_cons_of_mem _ hx))
    unfold keyL
    obtain ⟨c, t, e⟩ : ∃ c t, vb v.1 v.2.1 v.2.2 ++ keyL r = c :: t := ⟨_, _, rfl⟩
    rw [e] at h1 ⊢
    rw [decK_cons, h1, if_pos rfl, ih]
    rfl

/-! back -/
theorem vck_num {k n : Int} (h1 : 0 ≤ k) (h2 : k ≤ 3) (h3 : RightNum k n = true) : VCheck k n Em = 0 := by
  unfold VCheck
  rw [if_neg (by omega), if_neg (by rw [h3]; decide), if_neg (by rintro ⟨_, h⟩; exact h ((toList_nil_iff_emptyBytes Em).2 rfl)), if_neg (by decide)]
theorem vck_text {s : ByteArray} (h : s.size ≤ 200) : VCheck 4 0 s = 0 := by
  unfold VCheck
  rw [if_neg (by decide), if_neg (by simp [RightNum]), if_neg (by rintro ⟨h, _⟩; exact h rfl), if_neg (by omega)]
theorem in00 : InI 0 := by unfold InI; decide
theorem strB_size (l : List Nat) : (strB l).size = l.length := by unfold strB; rw [strOfNums_size, List.length_map]
theorem esc_lt {t : List Nat} (h : ∀ x ∈ esc t, x < 256) : ∀ x ∈ t, x < 256 := by
  induction t with
  | nil => intro x hx; cases hx
  | cons c t ih =>
    unfold esc at h
    intro x hx
    rcases List.mem_cons.1 hx with rfl | hx
    · by_cases c0 : x = 0
      · omega
      · rw [if_neg c0] at h; exact h x (by simp)
    · exact ih (fun y hy => h y (List.mem_append_right _ hy)) x hx

theorem dec_back1 (c : Nat) (r : List Nat) (h8 : ∀ x ∈ c :: r, x < 256) (h : (decOne (c :: r)).1 = 0) :
    c :: r = vb (decOne (c :: r)).2.1.1 (decOne (c :: r)).2.1.2.1 (decOne (c :: r)).2.1.2.2 ++ (decOne (c :: r)).2.2 ∧ RV (decOne (c :: r)).2.1 := by
  have hc : c < 1 ∨ 5 < c ∨ c = 1 ∨ c = 5 ∨ c = 2 ∨ c = 3 ∨ c = 4 := by omega
  rcases hc with hc | hc | rfl | rfl | rfl | rfl | rfl
  · rw [decOne_cons, if_pos (.inl hc)] at h; exact absurd h (by decide)
  · rw [decOne_cons, if_pos (.inr hc)] at h; exact absurd h (by decide)
  · exact ⟨rfl, vck_num (k := 0) (n := 0) (by decide) (by decide) rfl, in00⟩
  · rw [decOne_cons, if_neg (by decide), if_neg (by decide), if_pos rfl] at h ⊢
    by_cases q : (txt 0 r).1 = 0
    · rw [if_pos q] at h ⊢
      obtain ⟨b1, b2⟩ := txt_back r 0 (by decide) q
      have hb : ∀ x ∈ (txt 0 r).2.1, x < 256 := esc_lt (fun x hx => h8 x (List.mem_cons_of_mem _ (by rw [b1]; exact List.mem_append_left _ hx)))
      refine ⟨?_, vck_text (by rw [strB_size]; omega), in00⟩
      show _ = vb 4 0 (strB (txt 0 r).2.1) ++ (txt 0 r).2.2
      rw [vb4, sl_strB hb]
      show _ = 5 :: (esc (txt 0 r).2.1 ++ [0, 1] ++ (txt 0 r).2.2)
      rw [List.append_assoc]
      exact congrArg _ b1
    · rw [if_neg q] at h; exact absurd h q
  · rw [decOne_cons, if_neg (by decide), if_neg (by decide), if_neg (by decide)] at h ⊢
    by_cases q : r.length < nB 2
    · rw [if_pos q] at h; exact absurd h (by decide)
    · rw [if_neg q] at h ⊢
      match r, q with
      | x :: t, _ =>
        have hx := h8 x (by simp)
        have e1 : numU ((x :: t).take (nB 2)) = x := by show numU [x] = x; simp [numU]
        rw [e1] at h ⊢
        have e2 : numK (((2 : Nat) : Int) - 1) x = if 1 < x then (0, 2) else ((x : Int), 0) := rfl
        rw [e2] at h ⊢
        by_cases z : 1 < x
        · rw [if_pos z, if_neg (by decide)] at h; exact absurd h (by decide)
        · rw [if_neg z, if_pos rfl]
          refine ⟨?_, vck_num (k := 1) (n := (x : Int)) (by decide) (by decide) (by
            show (((x : Int) == 0) || ((x : Int) == 1)) = true
            rcases (show x = 0 ∨ x = 1 by omega) with rfl | rfl <;> rfl), by unfold InI; simp only; omega⟩
          show _ = vb 1 (x : Int) Em ++ t
          rw [vb1]
          show _ = 2 :: ((x : Int) % 256).toNat :: t
          congr 2
          omega
      | [], q => exact absurd (by simp [nB]) q
  · rw [decOne_cons, if_neg (by decide), if_neg (by decide), if_neg (by decide)] at h ⊢
    by_cases q : r.length < nB 3
    · rw [if_pos q] at h; exact absurd h (by decide)
    · rw [if_neg q] at h ⊢
      have ql : (r.take 8).length = 8 := by rw [List.length_take]; have : nB 3 = 8 := rfl; omega
      have q8 : ∀ x ∈ r.take 8, x < 256 := fun x hx => h8 x (List.mem_cons_of_mem _ (List.mem_of_mem_take hx))
      have hu := numU_lt 8 (r.take 8) q8 ql
      have e2 : numK (((3 : Nat) : Int) - 1) (numU (r.take (nB 3))) = ((numU (r.take 8) : Int) - 9223372036854775808, 0) := rfl
      rw [e2, if_pos rfl]
      refine ⟨?_, vck_num (k := 2) (n := (numU (r.take 8) : Int) - 9223372036854775808) (by decide) (by decide) rfl, by unfold InI; simp only; omega⟩
      show _ = vb 2 ((numU (r.take 8) : Int) - 9223372036854775808) Em ++ r.drop 8
      rw [vb2, show ((numU (r.take 8) : Int) - 9223372036854775808 + 9223372036854775808).toNat = numU (r.take 8) by omega, be8_numU _ ql q8]
      show _ = 3 :: (r.take 8 ++ r.drop 8)
      rw [List.take_append_drop]
  · rw [decOne_cons, if_neg (by decide), if_neg (by decide), if_neg (by decide)] at h ⊢
    by_cases q : r.length < nB 4
    · rw [if_pos q] at h; exact absurd h (by decide)
    · rw [if_neg q] at h ⊢
      have ql : (r.take 8).length = 8 := by rw [List.length_take]; have : nB 4 = 8 := rfl; omega
      have q8 : ∀ x ∈ r.take 8, x < 256 := fun x hx => h8 x (List.mem_cons_of_mem _ (List.mem_of_mem_take hx))
      have hu := numU_lt 8 (r.take 8) q8 ql
      have e2 : numK (((4 : Nat) : Int) - 1) (numU (r.take (nB 4))) = if realN (numU (r.take 8)) = -9223372036854775808 ∨ realN (numU (r.take 8)) ≠ PCanon (realN (numU (r.take 8))) then (0, 2) else (realN (numU (r.take 8)), 0) := rfl
      rw [e2] at h ⊢
      have hin : InI (realN (numU (r.take 8))) := by unfold InI realN; split <;> omega
      have hrr := ris_real (u := numU (r.take 8)) (by omega)
      by_cases z : realN (numU (r.take 8)) = -9223372036854775808 ∨ realN (numU (r.take 8)) ≠ PCanon (realN (numU (r.take 8)))
      · rw [if_pos z, if_neg (by decide)] at h; exact absurd h (by decide)
      · rw [if_neg z, if_pos rfl]
        have z1 : realN (numU (r.take 8)) ≠ -9223372036854775808 := fun e => z (.inl e)
        have z2 : realN (numU (r.take 8)) = PCanon (realN (numU (r.take 8))) := by
          rcases Decidable.em (realN (numU (r.take 8)) = PCanon (realN (numU (r.take 8)))) with e | e
          · exact e
          · exact absurd (.inr e) z
        refine ⟨?_, vck_num (k := 3) (n := realN (numU (r.take 8))) (by decide) (by decide) (rgt3' hin z2), hin⟩
        show _ = vb 3 (realN (numU (r.take 8))) Em ++ r.drop 8
        rw [vb3, hrr z1, be8_numU _ ql q8]
        show _ = 4 :: (r.take 8 ++ r.drop 8)
        rw [List.take_append_drop]

theorem dec_back : ∀ (n : Nat) (l : List Nat), l.length ≤ n → (∀ x ∈ l, x < 256) → (decK l).2 = 0 → keyL (decK l).1 = l ∧ ∀ v ∈ (decK l).1, RV v
  | _, [], _, _, _ => ⟨rfl, fun v hv => absurd hv (by simp [decK_nil])⟩
  | 0, c :: r, h, _, _ => absurd h (by simp)
  | n + 1, c :: r, h, h8, hd => by
    rw [List.length_cons] at h
    have hl := decOne_len c r
    rw [decK_cons] at hd ⊢
    by_cases q : (decOne (c :: r)).1 = 0
    · rw [if_pos q] at hd ⊢
      obtain ⟨b1, b2⟩ := dec_back1 c r h8 q
      unfold vcons at hd ⊢
      by_cases z : (decK (decOne (c :: r)).2.2).2 = 0
      · rw [if_pos z]
        have h8' : ∀ x ∈ (decOne (c :: r)).2.2, x < 256 := fun x hx => h8 x (by rw [b1]; exact List.mem_append_right _ hx)
        obtain ⟨i1, i2⟩ := dec_back n (decOne (c :: r)).2.2 (by omega) h8' z
        refine ⟨?_, ?_⟩
        · show keyL ((decOne (c :: r)).2.1 :: _) = _
          unfold keyL
          rw [i1]
          exact b1.symm
        · intro v hv
          rcases List.mem_cons.1 hv with rfl | hv
          · exact b2
          · exact i2 v hv
      · rw [if_neg z] at hd; exact absurd hd z
    · rw [if_neg q] at hd; exact absurd hd q

end Go.Proofs.Ytpknoclnmhomiab
