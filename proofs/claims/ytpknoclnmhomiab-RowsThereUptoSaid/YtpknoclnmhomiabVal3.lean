/-
  Contracts of the document's answers for layer 2 (haspref02) over the translation: checks, order, comparisons.
  Conditions: none.
-/
import Derived.Test.YtpknoclnmhomiabVal2
namespace Go.Proofs.Ytpknoclnmhomiab
open Go.RowKit Go.Joins Go.ChangeShapes Go.WideShapes
set_option linter.unusedVariables false

theorem canon_iff {n : Int} (h : InI n) : (n == RCanon n) = !(rnan (ub n) && n != 9221120237041090560) := by
  rw [canon_eq h]
  unfold PCanon
  rcases rnan (ub n) with _ | _
  · simp
  · by_cases c : n = 9221120237041090560 <;> simp [c, bne]

theorem size_list (s : ByteArray) : s.toList = [] ↔ s.size = 0 := by
  rw [Go.ByteArray.toList_eq]
  show s.data.toList = [] ↔ s.data.size = 0
  rw [← Array.length_toList, List.length_eq_zero_iff]

theorem vcheck_eq (k n : Int) (s : ByteArray) (c : Int) (h : (k < 0 ∧ c = 50) ∨ (4 < k ∧ c = 50) ∨ (0 ≤ k ∧ k ≤ 4 ∧ RightNum k n = false ∧ c = 2) ∨ (0 ≤ k ∧ k < 4 ∧ RightNum k n = true ∧ 0 < s.size ∧ c = 2) ∨ (0 ≤ k ∧ k < 4 ∧ RightNum k n = true ∧ s.size = 0 ∧ c = 0) ∨
    (k = 4 ∧ RightNum k n = true ∧ 200 < s.size ∧ c = 1) ∨ (k = 4 ∧ RightNum k n = true ∧ s.size ≤ 200 ∧ c = 0)) : VCheck k n s = c := by
  unfold VCheck
  rcases h with ⟨a, rfl⟩ | ⟨a, rfl⟩ | ⟨a, b, d, rfl⟩ | ⟨a, b, d, e, rfl⟩ | ⟨a, b, d, e, rfl⟩ | ⟨rfl, d, e, rfl⟩ | ⟨rfl, d, e, rfl⟩
  · rw [if_pos (.inl a)]
  · rw [if_pos (.inr a)]
  · rw [if_neg (by omega), if_pos d]
  · rw [if_neg (by omega), if_neg (by rw [d]; decide), if_pos ⟨by omega, fun h => by rw [size_list] at h; omega⟩]
  · rw [if_neg (by omega), if_neg (by rw [d]; decide), if_neg (fun h => h.2 ((size_list s).2 e)), if_neg (by omega)]
  · rw [if_neg (by omega), if_neg (by rw [d]; decide), if_neg (fun h => h.1 rfl), if_pos e]
  · rw [if_neg (by omega), if_neg (by rw [d]; decide), if_neg (fun h => h.1 rfl), if_neg (by omega)]

theorem rc_lo (k n : Int) (s : ByteArray) (hn : InI n) (hm : (s.size : Int) ≤ 9223372036854775807) (h1 : k < 0) (w : World) :
    Calls Try.prog 22 #[Vv k n s] w fun e w' => e = .returned (.int .i64 (VCheck k n s)) ∧ Below w.heap.size w w' := by
  rw [vcheck_eq k n s 50 (.inl ⟨h1, rfl⟩)]
  have hq := refnan_any n
  have HN := Lib.hid hq
  clear hq
  unfold Vv
  go_enter Try.func22, Try.ntmps22
  go_wp2_with (go_at_call 29; refine (HN.out _).mono ?_; rintro e w' ⟨rfl, rfl⟩)
  go_ret
  exact ⟨rfl, (Below.refl _ _).alloc (Nat.le_refl _) _⟩

theorem rc_hi (k n : Int) (s : ByteArray) (hn : InI n) (hm : (s.size : Int) ≤ 9223372036854775807) (h1 : 4 < k) (w : World) :
    Calls Try.prog 22 #[Vv k n s] w fun e w' => e = .returned (.int .i64 (VCheck k n s)) ∧ Below w.heap.size w w' := by
  rw [vcheck_eq k n s 50 (.inr (.inl ⟨h1, rfl⟩))]
  have hq := refnan_any n
  have HN := Lib.hid hq
  clear hq
  unfold Vv
  go_enter Try.func22, Try.ntmps22
  go_wp2_with (go_at_call 29; refine (HN.out _).mono ?_; rintro e w' ⟨rfl, rfl⟩)
  go_ret
  exact ⟨rfl, (Below.refl _ _).alloc (Nat.le_refl _) _⟩

theorem rc_0bad (k n : Int) (s : ByteArray) (hn : InI n) (hm : (s.size : Int) ≤ 9223372036854775807) (hk : k = 0) (h0 : n ≠ 0) (w : World) :
    Calls Try.prog 22 #[Vv k n s] w fun e w' => e = .returned (.int .i64 (VCheck k n s)) ∧ Below w.heap.size w w' := by
  subst hk
  rw [vcheck_eq 0 n s 2 (.inr (.inr (.inl ⟨by omega, by omega, by simp [RightNum, h0], rfl⟩)))]
  have hq := refnan_any n
  have HN := Lib.hid hq
  clear hq
  have hb : (n != 0) = true := by simpa using h0
  clear h0
  unfold Vv
  go_enter Try.func22, Try.ntmps22
  go_wp2_with (go_at_call 29; refine (HN.out _).mono ?_; rintro e w' ⟨rfl, rfl⟩)
  go_ret
  exact ⟨rfl, (Below.refl _ _).alloc (Nat.le_refl _) _⟩

theorem rc_4bad (k n : Int) (s : ByteArray) (hn : InI n) (hm : (s.size : Int) ≤ 9223372036854775807) (hk : k = 4) (h0 : n ≠ 0) (w : World) :
    Calls Try.prog 22 #[Vv k n s] w fun e w' => e = .returned (.int .i64 (VCheck k n s)) ∧ Below w.heap.size w w' := by
  subst hk
  rw [vcheck_eq 4 n s 2 (.inr (.inr (.inl ⟨by omega, by omega, by simp [RightNum, h0], rfl⟩)))]
  have hq := refnan_any n
  have HN := Lib.hid hq
  clear hq
  have hb : (n != 0) = true := by simpa using h0
  clear h0
  unfold Vv
  go_enter Try.func22, Try.ntmps22
  go_wp2_with (go_at_call 29; refine (HN.out _).mono ?_; rintro e w' ⟨rfl, rfl⟩)
  go_ret
  exact ⟨rfl, (Below.refl _ _).alloc (Nat.le_refl _) _⟩

theorem rc_0p (k n : Int) (s : ByteArray) (hn : InI n) (hm : (s.size : Int) ≤ 9223372036854775807) (hk : k = 0) (h0 : n = 0) (hs : 0 < s.size) (w : World) :
    Calls Try.prog 22 #[Vv k n s] w fun e w' => e = .returned (.int .i64 (VCheck k n s)) ∧ Below w.heap.size w w' := by
  subst hk
  subst h0
  rw [vcheck_eq 0 0 s 2 (.inr (.inr (.inr (.inl ⟨by omega, by omega, rfl, hs, rfl⟩))))]
  have hq := refnan_any 0
  have HN := Lib.hid hq
  clear hq
  have hz : (0 : Int) < (s.size : Int) := by omega
  clear hs
  unfold Vv
  go_enter Try.func22, Try.ntmps22
  go_wp2_with (go_at_call 29; refine (HN.out _).mono ?_; rintro e w' ⟨rfl, rfl⟩)
  go_ret
  exact ⟨rfl, (Below.refl _ _).alloc (Nat.le_refl _) _⟩

theorem rc_0z (k n : Int) (s : ByteArray) (hn : InI n) (hm : (s.size : Int) ≤ 9223372036854775807) (hk : k = 0) (h0 : n = 0) (hs : s.size = 0) (w : World) :
    Calls Try.prog 22 #[Vv k n s] w fun e w' => e = .returned (.int .i64 (VCheck k n s)) ∧ Below w.heap.size w w' := by
  subst hk
  subst h0
  rw [vcheck_eq 0 0 s 0 (.inr (.inr (.inr (.inr (.inl ⟨by omega, by omega, rfl, hs, rfl⟩)))))]
  have hq := refnan_any 0
  have HN := Lib.hid hq
  clear hq
  have hz : ¬ (0 : Int) < (s.size : Int) := by omega
  have hz2 : ¬ (200 : Int) < (s.size : Int) := by omega
  clear hs
  unfold Vv
  go_enter Try.func22, Try.ntmps22
  go_wp2_with (go_at_call 29; refine (HN.out _).mono ?_; rintro e w' ⟨rfl, rfl⟩)
  go_ret
  exact ⟨rfl, (Below.refl _ _).alloc (Nat.le_refl _) _⟩

theorem rc_4p (k n : Int) (s : ByteArray) (hn : InI n) (hm : (s.size : Int) ≤ 9223372036854775807) (hk : k = 4) (h0 : n = 0) (hs : 200 < s.size) (w : World) :
    Calls Try.prog 22 #[Vv k n s] w fun e w' => e = .returned (.int .i64 (VCheck k n s)) ∧ Below w.heap.size w w' := by
  subst hk
  subst h0
  rw [vcheck_eq 4 0 s 1 (.inr (.inr (.inr (.inr (.inr (.inl ⟨rfl, rfl, hs, rfl⟩))))))]
  have hq := refnan_any 0
  have HN := Lib.hid hq
  clear hq
  have hz2 : (200 : Int) < (s.size : Int) := by omega
  clear hs
  unfold Vv
  go_enter Try.func22, Try.ntmps22
  go_wp2_with (go_at_call 29; refine (HN.out _).mono ?_; rintro e w' ⟨rfl, rfl⟩)
  go_ret
  exact ⟨rfl, (Below.refl _ _).alloc (Nat.le_refl _) _⟩

theorem rc_4z (k n : Int) (s : ByteArray) (hn : InI n) (hm : (s.size : Int) ≤ 9223372036854775807) (hk : k = 4) (h0 : n = 0) (hs : s.size ≤ 200) (w : World) :
    Calls Try.prog 22 #[Vv k n s] w fun e w' => e = .returned (.int .i64 (VCheck k n s)) ∧ Below w.heap.size w w' := by
  subst hk
  subst h0
  rw [vcheck_eq 4 0 s 0 (.inr (.inr (.inr (.inr (.inr (.inr ⟨rfl, rfl, hs, rfl⟩))))))]
  have hq := refnan_any 0
  have HN := Lib.hid hq
  clear hq
  have hz2 : ¬ (200 : Int) < (s.size : Int) := by omega
  clear hs
  unfold Vv
  go_enter Try.func22, Try.ntmps22
  go_wp2_with (go_at_call 29; refine (HN.out _).mono ?_; rintro e w' ⟨rfl, rfl⟩)
  go_ret
  exact ⟨rfl, (Below.refl _ _).alloc (Nat.le_refl _) _⟩

theorem right1 {n : Int} (h1 : 0 ≤ n) (h2 : n ≤ 1) : RightNum 1 n = true := by
  have e : n = 0 ∨ n = 1 := by omega
  rcases e with rfl | rfl <;> rfl

theorem right1no {n : Int} (h : n < 0 ∨ 1 < n) : RightNum 1 n = false := by
  have a : n ≠ 0 := by omega
  have b : n ≠ 1 := by omega
  simp [RightNum, a, b]

theorem rc_1lo (k n : Int) (s : ByteArray) (hn : InI n) (hm : (s.size : Int) ≤ 9223372036854775807) (hk : k = 1) (h1 : n < 0) (w : World) :
    Calls Try.prog 22 #[Vv k n s] w fun e w' => e = .returned (.int .i64 (VCheck k n s)) ∧ Below w.heap.size w w' := by
  subst hk
  rw [vcheck_eq 1 n s 2 (.inr (.inr (.inl ⟨by omega, by omega, right1no (.inl h1), rfl⟩)))]
  have hq := refnan_any n
  have HN := Lib.hid hq
  clear hq
  unfold Vv
  go_enter Try.func22, Try.ntmps22
  go_wp2_with (go_at_call 29; refine (HN.out _).mono ?_; rintro e w' ⟨rfl, rfl⟩)
  go_ret
  exact ⟨rfl, (Below.refl _ _).alloc (Nat.le_refl _) _⟩

theorem rc_1hi (k n : Int) (s : ByteArray) (hn : InI n) (hm : (s.size : Int) ≤ 9223372036854775807) (hk : k = 1) (h1 : 1 < n) (w : World) :
    Calls Try.prog 22 #[Vv k n s] w fun e w' => e = .returned (.int .i64 (VCheck k n s)) ∧ Below w.heap.size w w' := by
  subst hk
  rw [vcheck_eq 1 n s 2 (.inr (.inr (.inl ⟨by omega, by omega, right1no (.inr h1), rfl⟩)))]
  have hq := refnan_any n
  have HN := Lib.hid hq
  clear hq
  unfold Vv
  go_enter Try.func22, Try.ntmps22
  go_wp2_with (go_at_call 29; refine (HN.out _).mono ?_; rintro e w' ⟨rfl, rfl⟩)
  go_ret
  exact ⟨rfl, (Below.refl _ _).alloc (Nat.le_refl _) _⟩

theorem rc_1p (k n : Int) (s : ByteArray) (hn : InI n) (hm : (s.size : Int) ≤ 9223372036854775807) (hk : k = 1) (h1 : 0 ≤ n) (h2 : n ≤ 1) (hs : 0 < s.size) (w : World) :
    Calls Try.prog 22 #[Vv k n s] w fun e w' => e = .returned (.int .i64 (VCheck k n s)) ∧ Below w.heap.size w w' := by
  subst hk
  rw [vcheck_eq 1 n s 2 (.inr (.inr (.inr (.inl ⟨by omega, by omega, right1 h1 h2, hs, rfl⟩))))]
  have hq := refnan_any n
  have HN := Lib.hid hq
  clear hq
  have hz : (0 : Int) < (s.size : Int) := by omega
  clear hs
  unfold Vv
  go_enter Try.func22, Try.ntmps22
  go_wp2_with (go_at_call 29; refine (HN.out _).mono ?_; rintro e w' ⟨rfl, rfl⟩)
  go_ret
  exact ⟨rfl, (Below.refl _ _).alloc (Nat.le_refl _) _⟩

theorem rc_1z (k n : Int) (s : ByteArray) (hn : InI n) (hm : (s.size : Int) ≤ 9223372036854775807) (hk : k = 1) (h1 : 0 ≤ n) (h2 : n ≤ 1) (hs : s.size = 0) (w : World) :
    Calls Try.prog 22 #[Vv k n s] w fun e w' => e = .returned (.int .i64 (VCheck k n s)) ∧ Below w.heap.size w w' := by
  subst hk
  rw [vcheck_eq 1 n s 0 (.inr (.inr (.inr (.inr (.inl ⟨by omega, by omega, right1 h1 h2, hs, rfl⟩)))))]
  have hq := refnan_any n
  have HN := Lib.hid hq
  clear hq
  have hz : ¬ (0 : Int) < (s.size : Int) := by omega
  have hz2 : ¬ (200 : Int) < (s.size : Int) := by omega
  clear hs
  unfold Vv
  go_enter Try.func22, Try.ntmps22
  go_wp2_with (go_at_call 29; refine (HN.out _).mono ?_; rintro e w' ⟨rfl, rfl⟩)
  go_ret
  exact ⟨rfl, (Below.refl _ _).alloc (Nat.le_refl _) _⟩

theorem rc_2p (k n : Int) (s : ByteArray) (hn : InI n) (hm : (s.size : Int) ≤ 9223372036854775807) (hk : k = 2) (hs : 0 < s.size) (w : World) :
    Calls Try.prog 22 #[Vv k n s] w fun e w' => e = .returned (.int .i64 (VCheck k n s)) ∧ Below w.heap.size w w' := by
  subst hk
  rw [vcheck_eq 2 n s 2 (.inr (.inr (.inr (.inl ⟨by omega, by omega, rfl, hs, rfl⟩))))]
  have hq := refnan_any n
  have HN := Lib.hid hq
  clear hq
  have hz : (0 : Int) < (s.size : Int) := by omega
  clear hs
  unfold Vv
  go_enter Try.func22, Try.ntmps22
  go_wp2_with (go_at_call 29; refine (HN.out _).mono ?_; rintro e w' ⟨rfl, rfl⟩)
  go_ret
  exact ⟨rfl, (Below.refl _ _).alloc (Nat.le_refl _) _⟩

theorem rc_2z (k n : Int) (s : ByteArray) (hn : InI n) (hm : (s.size : Int) ≤ 9223372036854775807) (hk : k = 2) (hs : s.size = 0) (w : World) :
    Calls Try.prog 22 #[Vv k n s] w fun e w' => e = .returned (.int .i64 (VCheck k n s)) ∧ Below w.heap.size w w' := by
  subst hk
  rw [vcheck_eq 2 n s 0 (.inr (.inr (.inr (.inr (.inl ⟨by omega, by omega, rfl, hs, rfl⟩)))))]
  have hq := refnan_any n
  have HN := Lib.hid hq
  clear hq
  have hz : ¬ (0 : Int) < (s.size : Int) := by omega
  have hz2 : ¬ (200 : Int) < (s.size : Int) := by omega
  clear hs
  unfold Vv
  go_enter Try.func22, Try.ntmps22
  go_wp2_with (go_at_call 29; refine (HN.out _).mono ?_; rintro e w' ⟨rfl, rfl⟩)
  go_ret
  exact ⟨rfl, (Below.refl _ _).alloc (Nat.le_refl _) _⟩

theorem right3 {n : Int} (h : InI n) : RightNum 3 n = !(rnan (ub n) && n != 9221120237041090560) := by rw [← canon_iff h]; rfl

theorem rc_3bad (k n : Int) (s : ByteArray) (hn : InI n) (hm : (s.size : Int) ≤ 9223372036854775807) (hk : k = 3) (hnan : rnan (ub n) = true) (h0 : n ≠ 9221120237041090560) (w : World) :
    Calls Try.prog 22 #[Vv k n s] w fun e w' => e = .returned (.int .i64 (VCheck k n s)) ∧ Below w.heap.size w w' := by
  subst hk
  rw [vcheck_eq 3 n s 2 (.inr (.inr (.inl ⟨by omega, by omega, by rw [right3 hn, hnan]; simpa using h0, rfl⟩)))]
  have hq := refnan_any n
  rw [hnan] at hq
  have HN := Lib.hid hq
  clear hq
  have hb : (n != 9221120237041090560) = true := by simpa using h0
  clear h0 hnan
  unfold Vv
  go_enter Try.func22, Try.ntmps22
  go_wp2_with (go_at_call 29; refine (HN.out _).mono ?_; rintro e w' ⟨rfl, rfl⟩)
  go_ret
  exact ⟨rfl, (Below.refl _ _).alloc (Nat.le_refl _) _⟩

theorem refnan_nan (w : World) : Calls Try.prog 29 #[.int .i64 9221120237041090560] w fun e w' => e = .returned (.bool true) ∧ w = w' := by
  have h := refnan_any 9221120237041090560 w
  rw [nan_ub, nan_rnan] at h
  exact h

theorem rc_3np (k n : Int) (s : ByteArray) (hn : InI n) (hm : (s.size : Int) ≤ 9223372036854775807) (hk : k = 3) (h0 : n = 9221120237041090560) (hs : 0 < s.size) (w : World) :
    Calls Try.prog 22 #[Vv k n s] w fun e w' => e = .returned (.int .i64 (VCheck k n s)) ∧ Below w.heap.size w w' := by
  subst hk
  subst h0
  rw [vcheck_eq 3 9221120237041090560 s 2 (.inr (.inr (.inr (.inl ⟨by omega, by omega, by rw [right3 hn, nan_ub, nan_rnan]; rfl, hs, rfl⟩))))]
  have hq := refnan_nan
  have HN := Lib.hid hq
  clear hq
  have hz : (0 : Int) < (s.size : Int) := by omega
  clear hs
  unfold Vv
  go_enter Try.func22, Try.ntmps22
  go_wp2_with (go_at_call 29; refine (HN.out _).mono ?_; rintro e w' ⟨rfl, rfl⟩)
  go_ret
  exact ⟨rfl, (Below.refl _ _).alloc (Nat.le_refl _) _⟩

theorem rc_3nz (k n : Int) (s : ByteArray) (hn : InI n) (hm : (s.size : Int) ≤ 9223372036854775807) (hk : k = 3) (h0 : n = 9221120237041090560) (hs : s.size = 0) (w : World) :
    Calls Try.prog 22 #[Vv k n s] w fun e w' => e = .returned (.int .i64 (VCheck k n s)) ∧ Below w.heap.size w w' := by
  subst hk
  subst h0
  rw [vcheck_eq 3 9221120237041090560 s 0 (.inr (.inr (.inr (.inr (.inl ⟨by omega, by omega, by rw [right3 hn, nan_ub, nan_rnan]; rfl, hs, rfl⟩)))))]
  have hq := refnan_nan
  have HN := Lib.hid hq
  clear hq
  have hz : ¬ (0 : Int) < (s.size : Int) := by omega
  have hz2 : ¬ (200 : Int) < (s.size : Int) := by omega
  clear hs
  unfold Vv
  go_enter Try.func22, Try.ntmps22
  go_wp2_with (go_at_call 29; refine (HN.out _).mono ?_; rintro e w' ⟨rfl, rfl⟩)
  go_ret
  exact ⟨rfl, (Below.refl _ _).alloc (Nat.le_refl _) _⟩

theorem rc_3p (k n : Int) (s : ByteArray) (hn : InI n) (hm : (s.size : Int) ≤ 9223372036854775807) (hk : k = 3) (hnan : rnan (ub n) = false) (hs : 0 < s.size) (w : World) :
    Calls Try.prog 22 #[Vv k n s] w fun e w' => e = .returned (.int .i64 (VCheck k n s)) ∧ Below w.heap.size w w' := by
  subst hk
  rw [vcheck_eq 3 n s 2 (.inr (.inr (.inr (.inl ⟨by omega, by omega, by rw [right3 hn, hnan]; rfl, hs, rfl⟩))))]
  have hq := refnan_any n
  rw [hnan] at hq
  have HN := Lib.hid hq
  clear hq
  have hz : (0 : Int) < (s.size : Int) := by omega
  clear hs hnan
  unfold Vv
  go_enter Try.func22, Try.ntmps22
  go_wp2_with (go_at_call 29; refine (HN.out _).mono ?_; rintro e w' ⟨rfl, rfl⟩)
  go_ret
  exact ⟨rfl, (Below.refl _ _).alloc (Nat.le_refl _) _⟩

theorem rc_3z (k n : Int) (s : ByteArray) (hn : InI n) (hm : (s.size : Int) ≤ 9223372036854775807) (hk : k = 3) (hnan : rnan (ub n) = false) (hs : s.size = 0) (w : World) :
    Calls Try.prog 22 #[Vv k n s] w fun e w' => e = .returned (.int .i64 (VCheck k n s)) ∧ Below w.heap.size w w' := by
  subst hk
  rw [vcheck_eq 3 n s 0 (.inr (.inr (.inr (.inr (.inl ⟨by omega, by omega, by rw [right3 hn, hnan]; rfl, hs, rfl⟩)))))]
  have hq := refnan_any n
  rw [hnan] at hq
  have HN := Lib.hid hq
  clear hq
  have hz : ¬ (0 : Int) < (s.size : Int) := by omega
  have hz2 : ¬ (200 : Int) < (s.size : Int) := by omega
  clear hs hnan
  unfold Vv
  go_enter Try.func22, Try.ntmps22
  go_wp2_with (go_at_call 29; refine (HN.out _).mono ?_; rintro e w' ⟨rfl, rfl⟩)
  go_ret
  exact ⟨rfl, (Below.refl _ _).alloc (Nat.le_refl _) _⟩

theorem refcheck_any (k n : Int) (s : ByteArray) (hn : InI n) (hs : s.size ≤ maxLen) (w : World) :
    Calls Try.prog 22 #[Vv k n s] w fun e w' => e = .returned (.int .i64 (VCheck k n s)) ∧ Below w.heap.size w w' := by
  have hm : (s.size : Int) ≤ 9223372036854775807 := by unfold maxLen at hs; omega
  clear hs
  rcases Int.lt_or_le k 0 with a | a
  · exact rc_lo k n s hn hm a w
  rcases Int.lt_or_le 4 k with b | b
  · exact rc_hi k n s hn hm b w
  have hk : k = 0 ∨ k = 1 ∨ k = 2 ∨ k = 3 ∨ k = 4 := by omega
  have hz : s.size = 0 ∨ 0 < s.size := by omega
  rcases hk with hk | hk | hk | hk | hk
  · by_cases h0 : n = 0
    · rcases hz with hz | hz
      · exact rc_0z k n s hn hm hk h0 hz w
      · exact rc_0p k n s hn hm hk h0 hz w
    · exact rc_0bad k n s hn hm hk h0 w
  · rcases Int.lt_or_le n 0 with c | c
    · exact rc_1lo k n s hn hm hk c w
    rcases Int.lt_or_le 1 n with d | d
    · exact rc_1hi k n s hn hm hk d w
    rcases hz with hz | hz
    · exact rc_1z k n s hn hm hk c d hz w
    · exact rc_1p k n s hn hm hk c d hz w
  · rcases hz with hz | hz
    · exact rc_2z k n s hn hm hk hz w
    · exact rc_2p k n s hn hm hk hz w
  · rcases hr : rnan (ub n) with _ | _
    · rcases hz with hz | hz
      · exact rc_3z k n s hn hm hk hr hz w
      · exact rc_3p k n s hn hm hk hr hz w
    · by_cases h0 : n = 9221120237041090560
      · rcases hz with hz | hz
        · exact rc_3nz k n s hn hm hk h0 hz w
        · exact rc_3np k n s hn hm hk h0 hz w
      · exact rc_3bad k n s hn hm hk hr h0 w
  · by_cases h0 : n = 0
    · rcases Nat.lt_or_ge 200 s.size with hz | hz
      · exact rc_4p k n s hn hm hk h0 hz w
      · exact rc_4z k n s hn hm hk h0 hz w
    · exact rc_4bad k n s hn hm hk h0 w

end Go.Proofs.Ytpknoclnmhomiab
