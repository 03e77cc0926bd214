/-
  A row's bytes, as lists of numbers: the bits of what is Null, the values' bytes. Maths alone.
  Conditions: none.
-/
import Derived.Test.YtpknoclnmhomiabRow1
import Derived.Test.YtpknoclnmhomiabByt1
namespace Go.Proofs.Ytpknoclnmhomiab
open Go.RowKit Go.Joins Go.ChangeShapes Go.WideShapes
set_option linter.unusedVariables false

/-- the first q bits of the eight values from i on -/
def bitsAt (kf : Nat → Int) (n i : Nat) : Nat → Nat
  | 0 => 0
  | q + 1 => bitsAt kf n i q + (if i + q < n ∧ kf (i + q) = 0 then 2 ^ q else 0)
theorem bitsAt_lt (kf : Nat → Int) (n i : Nat) : ∀ q, bitsAt kf n i q < 2 ^ q
  | 0 => by simp [bitsAt]
  | q + 1 => by
    have h := bitsAt_lt kf n i q
    unfold bitsAt
    rw [Nat.pow_succ]
    split <;> omega
theorem bitsAt_end (kf : Nat → Int) (n i q : Nat) (h : n ≤ i + q) : ∀ p, bitsAt kf n i (q + p) = bitsAt kf n i q
  | 0 => rfl
  | p + 1 => by
    rw [← Nat.add_assoc]
    show bitsAt kf n i (q + p) + (if i + (q + p) < n ∧ kf (i + (q + p)) = 0 then 2 ^ (q + p) else 0) = _
    rw [if_neg (by omega), Nat.add_zero]
    exact bitsAt_end kf n i q h p
/-- the bytes of the bits -/
def rbits (kf : Nat → Int) (n : Nat) : Nat → List Nat
  | 0 => []
  | j + 1 => rbits kf n j ++ [bitsAt kf n (8 * j) 8]
theorem rbits_length (kf : Nat → Int) (n : Nat) : ∀ j, (rbits kf n j).length = j
  | 0 => rfl
  | j + 1 => by simp [rbits, rbits_length kf n j]
theorem rbits_lt (kf : Nat → Int) (n : Nat) : ∀ j, ∀ x ∈ rbits kf n j, x < 256
  | 0 => by simp [rbits]
  | j + 1 => by
    intro x hx
    unfold rbits at hx
    rcases List.mem_append.1 hx with h | h
    · exact rbits_lt kf n j x h
    · rw [List.mem_singleton] at h
      subst h
      exact bitsAt_lt kf n (8 * j) 8
/-- a number's eight bytes, the least first -/
def le8 (u : Nat) : List Nat := [u % 256, u / 256 % 256, u / 65536 % 256, u / 16777216 % 256, u / 4294967296 % 256, u / 1099511627776 % 256, u / 281474976710656 % 256, u / 72057594037927936 % 256]
/-- a value's bytes in a row -/
def rv (k n : Int) (s : ByteArray) : List Nat :=
  if k = 1 then [(n % 256).toNat] else if k = 2 ∨ k = 3 then le8 (n % 18446744073709551616).toNat else if k = 4 then (s.size % 256) :: sl s else []
theorem rv0 (n : Int) (s : ByteArray) : rv 0 n s = [] := rfl
theorem rv1 (n : Int) (s : ByteArray) : rv 1 n s = [(n % 256).toNat] := rfl
theorem rv2 (n : Int) (s : ByteArray) : rv 2 n s = le8 (n % 18446744073709551616).toNat := rfl
theorem rv3 (n : Int) (s : ByteArray) : rv 3 n s = le8 (n % 18446744073709551616).toNat := rfl
theorem rv4 (n : Int) (s : ByteArray) : rv 4 n s = [s.size % 256] ++ sl s := rfl
theorem rv_le (k n : Int) (s : ByteArray) : (rv k n s).length ≤ s.size + 8 := by
  unfold rv
  have h := sl_length s
  repeat' split
  all_goals simp [le8, h]
theorem rv_lt (k n : Int) (s : ByteArray) : ∀ x ∈ rv k n s, x < 256 := by
  unfold rv
  intro x hx
  split at hx
  · simp only [List.mem_singleton] at hx; omega
  · split at hx
    · simp only [le8, List.mem_cons, List.not_mem_nil, or_false] at hx; omega
    · split at hx
      · rcases List.mem_cons.1 hx with h | h
        · omega
        · exact sl_lt s x h
      · cases hx
/-- the values' bytes -/
def rvs (kf nf : Nat → Int) (sf : Nat → ByteArray) : Nat → List Nat
  | 0 => []
  | m + 1 => rvs kf nf sf m ++ rv (kf m) (nf m) (sf m)
theorem rvs_le (kf nf : Nat → Int) (sf : Nat → ByteArray) : ∀ m, (∀ i, i < m → (sf i).size ≤ 200) → (rvs kf nf sf m).length ≤ m * 208
  | 0, _ => by simp [rvs]
  | m + 1, h => by
    have h1 := rvs_le kf nf sf m (fun i hi => h i (by omega))
    have h2 := rv_le (kf m) (nf m) (sf m)
    have h3 := h m (by omega)
    unfold rvs
    rw [List.length_append]
    omega
/-- a row's bytes -/
def rowB (kf nf : Nat → Int) (sf : Nat → ByteArray) (n : Nat) : List Nat := rbits kf n ((n + 7) / 8) ++ rvs kf nf sf n

theorem firstNZ_0 {c : Nat → Int} {i n : Nat} (h : firstNZ c 0 i n = 0) : ∀ k, i ≤ k → k < i + n → c k = 0 := by
  induction n generalizing i with
  | zero => intro k h1 h2; omega
  | succ n ih =>
    unfold firstNZ at h
    by_cases hz : c i = 0
    · rw [if_pos hz] at h
      intro k h1 h2
      by_cases e : k = i
      · rw [e]; exact hz
      · exact ih h k (by omega) (by omega)
    · rw [if_neg hz] at h
      exact absurd h hz
/-- a row that fits: as many values as columns, each of them right, of the column's kind, or Null -/
theorem fitV_right {m n : Nat} {tf : Nat → Int} {qf : Nat → Bool} {kf nf : Nat → Int} {sf : Nat → ByteArray} (h : fitV m n tf qf kf nf sf = 0) : m = n ∧ ∀ i, i < n → VCheck (kf i) (nf i) (sf i) = 0 ∧ (kf i = 0 ∧ qf i = false ∨ kf i ≠ 0 ∧ kf i = tf i) := by
  unfold fitV at h
  by_cases c : m = n
  · rw [if_pos c] at h
    refine ⟨c, fun i hi => ?_⟩
    have hs := firstNZ_0 h i (Nat.zero_le _) (by omega)
    unfold fitStep at hs
    by_cases c1 : VCheck (kf i) (nf i) (sf i) = 0
    · rw [if_pos c1] at hs
      refine ⟨c1, ?_⟩
      by_cases c2 : kf i = 0
      · rw [if_pos c2] at hs
        refine .inl ⟨c2, ?_⟩
        by_cases c3 : qf i = true
        · rw [if_pos c3] at hs; exact absurd hs (by decide)
        · simpa using c3
      · rw [if_neg c2] at hs
        refine .inr ⟨c2, ?_⟩
        by_cases c3 : kf i = tf i
        · exact c3
        · rw [if_neg c3] at hs; exact absurd hs (by decide)
    · rw [if_neg c1] at hs
      exact absurd hs c1
  · rw [if_neg c] at h
    exact absurd h (by decide)

theorem slAt (s : ByteArray) (q : Nat) (h : q < s.size) : (sl s)[q]? = some (s[q]'h).toNat := by
  unfold sl
  rw [List.getElem?_map, Array.getElem?_toList, Array.getElem?_eq_getElem h]
  rfl
theorem vckE {k n : Int} {s : ByteArray} (h : VCheck k n s = 0) : 0 ≤ k ∧ k ≤ 4 ∧ s.size ≤ 200 := by
  unfold VCheck at h
  by_cases h1 : k < 0 ∨ 4 < k
  · rw [if_pos h1] at h; exact absurd h (by decide)
  · rw [if_neg h1] at h
    by_cases h2 : RightNum k n = false
    · rw [if_pos h2] at h; exact absurd h (by decide)
    · rw [if_neg h2] at h
      by_cases h3 : k ≠ 4 ∧ s.toList ≠ []
      · rw [if_pos h3] at h; exact absurd h (by decide)
      · rw [if_neg h3] at h
        by_cases h4 : 200 < s.size
        · rw [if_pos h4] at h; exact absurd h (by decide)
        · exact ⟨by omega, by omega, by omega⟩

end Go.Proofs.Ytpknoclnmhomiab
