/-
  Rows, plainly: what a row's bytes are read as.
  Conditions: none.
-/
import Derived.Test.YtpknoclnmhomiabRow6
import Derived.Test.YtpknoclnmhomiabKey8
namespace Go.Proofs.Ytpknoclnmhomiab
open Go.RowKit Go.Joins Go.ChangeShapes Go.WideShapes
set_option linter.unusedVariables false

/-! bits -/
theorem bitsAt_bit (kf : Nat → Int) (n i r : Nat) : ∀ q, r < q → bitsAt kf n i q / 2 ^ r % 2 = if i + r < n ∧ kf (i + r) = 0 then 1 else 0
  | 0, h => absurd h (by omega)
  | q + 1, h => by
    unfold bitsAt
    have hlt := bitsAt_lt kf n i q
    by_cases e : r = q
    · subst e
      have hp : 0 < 2 ^ r := Nat.pow_pos (by decide)
      by_cases c : i + r < n ∧ kf (i + r) = 0
      · rw [if_pos c, if_pos c, Nat.add_div_right _ hp, Nat.div_eq_of_lt hlt]
      · rw [if_neg c, if_neg c, Nat.add_zero, Nat.div_eq_of_lt hlt]
    · have ih := bitsAt_bit kf n i r q (by omega)
      rw [← ih]
      by_cases c : i + q < n ∧ kf (i + q) = 0
      · rw [if_pos c]
        obtain ⟨d, hd⟩ : ∃ d, q = r + (d + 1) := ⟨q - r - 1, by omega⟩
        rw [hd, show 2 ^ (r + (d + 1)) = 2 ^ r * (2 * 2 ^ d) from by rw [Nat.pow_add, Nat.pow_succ, Nat.mul_comm (2 ^ d)], Nat.add_mul_div_left _ _ (Nat.pow_pos (by decide)), Nat.add_mul_mod_self_left]
      · rw [if_neg c, Nat.add_zero]
theorem rbits_at (kf : Nat → Int) (n : Nat) : ∀ j k, k < j → (rbits kf n j)[k]? = some (bitsAt kf n (8 * k) 8)
  | 0, k, h => absurd h (by omega)
  | j + 1, k, h => by
    unfold rbits
    have hl := rbits_length kf n j
    by_cases c : k < j
    · rw [List.getElem?_append_left (by omega)]
      exact rbits_at kf n j k c
    · obtain rfl : k = j := by omega
      rw [List.getElem?_append_right (by omega), hl, Nat.sub_self]
      rfl
theorem bitN_rbits (kf : Nat → Int) (n j : Nat) (r : List Nat) (i : Nat) (h : i / 8 < j) : bitN (rbits kf n j ++ r) i = decide (i < n ∧ kf i = 0) := by
  unfold bitN
  have hl := rbits_length kf n j
  rw [List.getD_eq_getElem?_getD, List.getElem?_append_left (by omega), rbits_at kf n j _ h]
  show decide (bitsAt kf n (8 * (i / 8)) 8 / 2 ^ (i % 8) % 2 = 1) = _
  rw [bitsAt_bit kf n (8 * (i / 8)) (i % 8) 8 (Nat.mod_lt _ (by decide)), Nat.div_add_mod]
  by_cases c : i < n ∧ kf i = 0
  · rw [if_pos c]; simp [c]
  · rw [if_neg c]; simp [c]

/-! values -/
theorem numL_le8 (u : Nat) (h : u < 18446744073709551616) : numL (le8 u) = u := by
  unfold le8
  simp only [numL]
  omega
theorem le8_len (u : Nat) : (le8 u).length = 8 := rfl
theorem sgn_back {n : Int} (h : InI n) : sgn (n % 18446744073709551616).toNat = n := by
  unfold InI at h
  unfold sgn
  split <;> omega
theorem rnum1 {n : Int} (h : RightNum 1 n = true) : n = 0 ∨ n = 1 := by
  unfold RightNum at h
  simpa using h
theorem rnum4 {n : Int} (h : RightNum 4 n = true) : n = 0 := by
  unfold RightNum at h
  simpa using h
theorem rnum0 {n : Int} (h : RightNum 0 n = true) : n = 0 := by
  unfold RightNum at h
  simpa using h
theorem rone_there (k n : Int) (s : ByteArray) (l rest : List Nat) (p : Nat) (hv : VCheck k n s = 0) (hn : InI n) (hk : k ≠ 0) (hd : l.drop p = rv k n s ++ rest) (hp : p ≤ l.length) : rone k l p = (0, (k, n, s), p + (rv k n s).length) := by
  obtain ⟨h0, h4, hr, hs, h2⟩ := vck hv
  have hlen := congrArg List.length hd
  rw [List.length_drop, List.length_append] at hlen
  have hc : k = 1 ∨ k = 2 ∨ k = 3 ∨ k = 4 := by omega
  rcases hc with rfl | rfl | rfl | rfl
  · rw [rv1] at hd hlen ⊢
    rw [List.length_cons, List.length_nil] at hlen ⊢
    have hu : numL ((l.drop p).take 1) = (n % 256).toNat := by rw [hd]; rfl
    have hn2 := rnum1 hr
    rw [rone_1 l p _ (by omega) hu (by omega), hs (by decide), show (((n % 256).toNat : Nat) : Int) = n by omega]
  · rw [rv2] at hd hlen ⊢
    rw [le8_len] at hlen ⊢
    have hu : numL ((l.drop p).take 8) = (n % 18446744073709551616).toNat := by
      rw [hd, List.take_append_of_le_length (by rw [le8_len]; exact Nat.le_refl _), List.take_of_length_le (by rw [le8_len]; exact Nat.le_refl _)]
      exact numL_le8 _ (by omega)
    rw [rone_2 l p _ (by omega) hu, hs (by decide), sgn_back hn]
  · rw [rv3] at hd hlen ⊢
    rw [le8_len] at hlen ⊢
    have hu : numL ((l.drop p).take 8) = (n % 18446744073709551616).toNat := by
      rw [hd, List.take_append_of_le_length (by rw [le8_len]; exact Nat.le_refl _), List.take_of_length_le (by rw [le8_len]; exact Nat.le_refl _)]
      exact numL_le8 _ (by omega)
    rw [rone_3 l p _ (by omega) hu (by rw [sgn_back hn]; exact (rgt3 hn hr).symm), hs (by decide), sgn_back hn]
  · rw [rv4] at hd hlen ⊢
    rw [List.length_append, List.length_cons, List.length_nil, sl_length] at hlen ⊢
    have hu : numL ((l.drop p).take 1) = s.size := by
      rw [hd]
      show s.size % 256 + 256 * 0 = s.size
      omega
    have hd2 : (l.drop (p + 1)).take s.size = sl s := by
      rw [← List.drop_drop, hd]
      show (sl s ++ rest).take s.size = sl s
      rw [← sl_length s, List.take_append_of_le_length (Nat.le_refl _), List.take_length]
    rw [rone_4 l p _ (by omega) hu (by omega) (by omega), hd2, strB_sl, rnum4 hr, show p + 1 + s.size = p + (0 + 1 + s.size) by omega]

theorem rvs_split (kf nf : Nat → Int) (sf : Nat → ByteArray) (i : Nat) : ∀ m, i < m → ∃ t, rvs kf nf sf m = rvs kf nf sf i ++ rv (kf i) (nf i) (sf i) ++ t
  | 0, h => absurd h (by omega)
  | m + 1, h => by
    by_cases c : i < m
    · obtain ⟨t, ht⟩ := rvs_split kf nf sf i m c
      exact ⟨t ++ rv (kf m) (nf m) (sf m), by rw [← List.append_assoc, ← ht]; rfl⟩
    · obtain rfl : i = m := by omega
      exact ⟨[], by rw [List.append_nil]; rfl⟩
/-- a row that fits, of these columns -/
def Fits (m : Nat) (tf : Nat → Int) (qf : Nat → Bool) (kf nf : Nat → Int) (sf : Nat → ByteArray) : Prop := ∀ i, i < m → (VCheck (kf i) (nf i) (sf i) = 0 ∧ (kf i = 0 ∧ qf i = false ∨ kf i ≠ 0 ∧ kf i = tf i)) ∧ InI (nf i)
theorem rdecF_there (m : Nat) (tf : Nat → Int) (qf : Nat → Bool) (kf nf : Nat → Int) (sf : Nat → ByteArray) (hf : Fits m tf qf kf nf sf) (x : List Nat) :
    ∀ r i, i + r = m → rdecF tf qf (rowB kf nf sf m ++ x) r i ((m + 7) / 8 + (rvs kf nf sf i).length) = if x = [] then ((vlist kf nf sf m).drop i, 0) else ([], 4)
  | 0, i, h => by
    obtain rfl : i = m := by omega
    unfold rdecF
    have hl : (rowB kf nf sf i ++ x).length = (i + 7) / 8 + (rvs kf nf sf i).length + x.length := by unfold rowB; rw [List.length_append, List.length_append, rbits_length]
    rw [hl]
    by_cases c : x = []
    · rw [if_pos c, c, List.length_nil, if_neg (by omega), List.drop_eq_nil_of_le (by rw [vlist_length]; exact Nat.le_refl _)]
    · have : 0 < x.length := List.length_pos_iff.2 c
      rw [if_neg c, if_pos (by omega)]
  | r + 1, i, h => by
    have hi : i < m := by omega
    have ih := rdecF_there m tf qf kf nf sf hf x r (i + 1) (by omega)
    obtain ⟨⟨hv, hk⟩, hn⟩ := hf i hi
    have hb : bitN (rowB kf nf sf m ++ x) i = decide (i < m ∧ kf i = 0) := by
      unfold rowB
      rw [List.append_assoc]
      exact bitN_rbits kf m _ _ i (by omega)
    have hvd : (vlist kf nf sf m).drop i = (kf i, nf i, sf i) :: (vlist kf nf sf m).drop (i + 1) := by
      rw [List.drop_eq_getElem_cons (by rw [vlist_length]; exact hi)]
      congr 1
      unfold vlist
      simp
    have hr1 : rvs kf nf sf (i + 1) = rvs kf nf sf i ++ rv (kf i) (nf i) (sf i) := rfl
    unfold rdecF
    rw [hb]
    rcases hk with ⟨h0, hq⟩ | ⟨h0, ht⟩
    · rw [if_pos (by simp [hi, h0]), if_neg (by rw [hq]; decide)]
      rw [hr1, h0, rv0, List.append_nil] at ih
      rw [ih, hvd, h0]
      obtain ⟨-, -, hr, hs, -⟩ := vck hv
      rw [h0] at hr
      rw [rnum0 hr, hs (by omega)]
      by_cases c : x = []
      · rw [if_pos c, if_pos c]; rfl
      · rw [if_neg c, if_neg c]; rfl
    · rw [if_neg (by simp [h0])]
      obtain ⟨t, hs⟩ := rvs_split kf nf sf i m hi
      have hd : (rowB kf nf sf m ++ x).drop ((m + 7) / 8 + (rvs kf nf sf i).length) = rv (kf i) (nf i) (sf i) ++ (t ++ x) := by
        unfold rowB
        rw [hs, show rbits kf m ((m + 7) / 8) ++ (rvs kf nf sf i ++ rv (kf i) (nf i) (sf i) ++ t) ++ x = (rbits kf m ((m + 7) / 8) ++ rvs kf nf sf i) ++ (rv (kf i) (nf i) (sf i) ++ (t ++ x)) from by simp only [List.append_assoc]]
        exact List.drop_left' (by rw [List.length_append, rbits_length])
      have hp : (m + 7) / 8 + (rvs kf nf sf i).length ≤ (rowB kf nf sf m ++ x).length := by
        unfold rowB
        rw [hs]
        simp only [List.length_append, rbits_length]
        omega
      rw [← ht, rone_there (kf i) (nf i) (sf i) _ _ _ hv hn h0 hd hp]
      rw [hr1, List.length_append, ← Nat.add_assoc] at ih
      show (if (0 : Int) = 0 then rcons (kf i, nf i, sf i) (rdecF tf qf (rowB kf nf sf m ++ x) r (i + 1) ((m + 7) / 8 + (rvs kf nf sf i).length + (rv (kf i) (nf i) (sf i)).length)) else _) = _
      rw [if_pos rfl, ih, hvd]
      by_cases c : x = []
      · rw [if_pos c, if_pos c]; rfl
      · rw [if_neg c, if_neg c]; rfl
/-- P6.3, plainly: a row that fits is read again from its bytes; with a byte more it isn't -/
theorem rdec_there (m : Nat) (tf : Nat → Int) (qf : Nat → Bool) (kf nf : Nat → Int) (sf : Nat → ByteArray) (hf : Fits m tf qf kf nf sf) (x : List Nat) :
    rdec m tf qf (rowB kf nf sf m ++ x) = if x = [] then (vlist kf nf sf m, 0) else ([], 4) := by
  unfold rdec
  rw [if_neg (by unfold rowB; simp only [List.length_append, rbits_length]; omega), if_neg]
  · exact rdecF_there m tf qf kf nf sf hf x m 0 (by omega)
  · rw [List.any_eq_true]
    rintro ⟨i, h1, h2⟩
    have h3 := List.mem_range.1 h1
    have hb : bitN (rowB kf nf sf m ++ x) i = decide (i < m ∧ kf i = 0) := by
      unfold rowB
      rw [List.append_assoc]
      exact bitN_rbits kf m _ _ i (by omega)
    rw [hb] at h2
    simp at h2
    omega
theorem Fits.of {m n : Nat} {tf : Nat → Int} {qf : Nat → Bool} {kf nf : Nat → Int} {sf : Nat → ByteArray} (h : fitV m n tf qf kf nf sf = 0) (hi : ∀ i, i < n → InI (nf i)) : m = n ∧ Fits n tf qf kf nf sf :=
  ⟨(fitV_right h).1, fun i hx => ⟨(fitV_right h).2 i hx, hi i hx⟩⟩

end Go.Proofs.Ytpknoclnmhomiab
