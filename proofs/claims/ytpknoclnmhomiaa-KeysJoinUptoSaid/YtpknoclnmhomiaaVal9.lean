/-
  Contracts over the translation: the order of two lists of values, the document's answer.
  Conditions: the lists lie in memory.
-/
import Derived.Test.YtpknoclnmhomiaaVal8
namespace Go.Proofs.Ytpknoclnmhomiaa
open Go.RowKit Go.Joins Go.ChangeShapes Go.WideShapes
set_option linter.unusedVariables false

theorem less_at (x y : Bool) (t : Int) (h : (if x then (-1 : Int) else if y then 1 else 0) = t) (w : World) : Calls Try.prog 32 #[.bool x, .bool y] w fun e w' => e = .returned (.int .i64 t) ∧ w = w' := by
  rw [← h]; exact less_any x y w

theorem cmpI_gt {m n : Nat} (h : n < m) : cmpI m n = 1 := by unfold cmpI; rw [if_neg (by omega), if_pos (by omega)]
theorem cmpI_lt {m n : Nat} (h : m < n) : cmpI m n = -1 := by unfold cmpI; rw [if_pos (by omega)]
theorem cmpI_eq (m : Nat) : cmpI m m = 0 := by unfold cmpI; rw [if_neg (by omega), if_neg (by omega)]

theorem rrows_some (b off m cap b' off' n cap' : Nat) (kf nf : Nat → Int) (sf : Nat → ByteArray) (kf' nf' : Nat → Int) (sf' : Nat → ByteArray) (hm : m ≤ maxLen) (hn : n ≤ maxLen) (w : World)
    (hA : IsV w b off m kf nf sf) (hB : IsV w b' off' n kf' nf' sf') :
    Calls Try.prog 19 #[.slice (some ⟨b, off, none⟩) m cap, .slice (some ⟨b', off', none⟩) n cap'] w fun e w' =>
      e = .returned (.int .i64 (firstNZ (fun i => VCmp (kf i) (nf i) (sf i) (kf' i) (nf' i) (sf' i)) (cmpI m n) 0 (min m n))) ∧ Below w.heap.size w w' := by
  have hm' : m ≤ 9223372036854775807 := by unfold maxLen at hm; omega
  have hn' : n ≤ 9223372036854775807 := by unfold maxLen at hn; omega
  clear hm hn
  generalize hc : (fun i => VCmp (kf i) (nf i) (sf i) (kf' i) (nf' i) (sf' i)) = c
  have hcmp : ∀ k w, Calls Try.prog 31 #[Vv (kf k) (nf k) (sf k), Vv (kf' k) (nf' k) (sf' k)] w fun e w' => e = .returned (.int .i64 (c k)) ∧ Below w.heap.size w w' := by
    intro k w; rw [← hc]; exact refcompare_any _ _ _ _ _ _ w
  clear hc
  generalize ht : cmpI m n = t
  generalize hT : firstNZ c t 0 (min m n) = T
  have HT := Lib.hid hT
  have HC := Lib.hid hcmp
  clear hT hcmp
  unfold Vv at HC
  rcases Nat.lt_trichotomy n m with hmn | hmn | hmn
  · have e1 : min m n = n := by omega
    rw [e1] at HT
    clear e1
    have HE := Lib.hid (less_at false true t (by rw [← ht, cmpI_gt hmn]; rfl))
    clear ht
    go_enter Try.func19, Try.ntmps19
    go_wp2
    go_loopw [5] (fun i wr => ∃ k : Nat, k ≤ n ∧ i = .int .i64 k ∧ Hid (firstNZ c t k (n - k) = T) ∧ Below w.heap.size w wr) (fun i _ => n - (intOf i).toNat)
    case atStart => exact ⟨0, Nat.zero_le _, rfl, HT, Below.refl _ _⟩
    case round =>
      obtain ⟨k, hk, rfl, HF, hb⟩ := hrel
      by_cases hlt : k < n
      · have hA' := hA.below hb
        have hB' := hB.below hb
        have a0 := hA'.c0 k (by omega)
        have a1 := hA'.c1 k (by omega)
        have a2 := hA'.c2 k (by omega)
        have b0 := hB'.c0 k (by omega)
        have b1 := hB'.c1 k (by omega)
        have b2 := hB'.c2 k (by omega)
        have hkm : (k : Int) < (m : Int) := by omega
        have hkn : (k : Int) < (n : Int) := by omega
        clear hA' hB'
        go_wp2
        go_still_tail 8, (by kernel_rfl)
        change wpList _ _ _ _ _ wr.drew
        have hb2 := hb.drew
        generalize wr.drew = w2 at *
        clear a0 a1 a2 b0 b1 b2
        obtain ⟨hs0, hs1⟩ := firstNZ_step HF.out hlt
        go_wp2_with fail
        refine (HC.out k _).mono ?_
        rintro e w3 ⟨rfl, hb3⟩
        have hb4 := hb2.trans (hb3.mono (by have := hb2.size; omega))
        by_cases hz : c k = 0
        · have hz' : (c k != 0) = false := by simpa using hz
          have HS := Lib.hid (hs0 hz)
          clear hz hs0 hs1 HF
          go_wp2
          go_roundw
          case rel => exact ⟨k + 1, by omega, by go_num, HS, hb4⟩
          case measure => simp [intOf]; omega
        · have hz' : (c k != 0) = true := by simpa using hz
          have HS := Lib.hid (hs1 hz)
          clear hz hs0 hs1 HF
          go_wp2
          go_ret
          exact ⟨ret_i HS.out, hb4⟩
      · have HS := Lib.hid (firstNZ_end HF.out (by omega))
        have hk1 : ¬ (k : Int) < (n : Int) := by omega
        have hk3 : (k : Int) < (m : Int) := by omega
        have f1 : (n : Int) < (m : Int) := by omega
        have f2 : ¬ (m : Int) < (n : Int) := by omega
        go_wp2_with (go_at_call 32; refine (HE.out _).mono ?_; rintro e w' ⟨rfl, rfl⟩)
        go_ret
        exact ⟨ret_i HS.out, hb⟩
  · have e1 : min m n = m := by omega
    rw [e1] at HT
    clear e1
    have HE := Lib.hid (less_at false false t (by rw [← ht, hmn, cmpI_eq]; rfl))
    clear ht
    have hl1 : n ≤ m := by omega
    have hl2 : m ≤ n := by omega
    clear hmn
    go_enter Try.func19, Try.ntmps19
    go_wp2
    go_loopw [5] (fun i wr => ∃ k : Nat, k ≤ m ∧ i = .int .i64 k ∧ Hid (firstNZ c t k (m - k) = T) ∧ Below w.heap.size w wr) (fun i _ => m - (intOf i).toNat)
    case atStart => exact ⟨0, Nat.zero_le _, rfl, HT, Below.refl _ _⟩
    case round =>
      obtain ⟨k, hk, rfl, HF, hb⟩ := hrel
      by_cases hlt : k < m
      · have hA' := hA.below hb
        have hB' := hB.below hb
        have a0 := hA'.c0 k (by omega)
        have a1 := hA'.c1 k (by omega)
        have a2 := hA'.c2 k (by omega)
        have b0 := hB'.c0 k (by omega)
        have b1 := hB'.c1 k (by omega)
        have b2 := hB'.c2 k (by omega)
        have hkm : (k : Int) < (m : Int) := by omega
        have hkn : (k : Int) < (n : Int) := by omega
        clear hA' hB'
        go_wp2
        go_still_tail 8, (by kernel_rfl)
        change wpList _ _ _ _ _ wr.drew
        have hb2 := hb.drew
        generalize wr.drew = w2 at *
        clear a0 a1 a2 b0 b1 b2
        obtain ⟨hs0, hs1⟩ := firstNZ_step HF.out hlt
        go_wp2_with fail
        refine (HC.out k _).mono ?_
        rintro e w3 ⟨rfl, hb3⟩
        have hb4 := hb2.trans (hb3.mono (by have := hb2.size; omega))
        by_cases hz : c k = 0
        · have hz' : (c k != 0) = false := by simpa using hz
          have HS := Lib.hid (hs0 hz)
          clear hz hs0 hs1 HF
          go_wp2
          go_roundw
          case rel => exact ⟨k + 1, by omega, by go_num, HS, hb4⟩
          case measure => simp [intOf]; omega
        · have hz' : (c k != 0) = true := by simpa using hz
          have HS := Lib.hid (hs1 hz)
          clear hz hs0 hs1 HF
          go_wp2
          go_ret
          exact ⟨ret_i HS.out, hb4⟩
      · have HS := Lib.hid (firstNZ_end HF.out (by omega))
        have hk1 : ¬ (k : Int) < (m : Int) := by omega
        have f1 : ¬ (m : Int) < (n : Int) := by omega
        have f2 : ¬ (n : Int) < (m : Int) := by omega
        go_wp2_with (go_at_call 32; refine (HE.out _).mono ?_; rintro e w' ⟨rfl, rfl⟩)
        go_ret
        exact ⟨ret_i HS.out, hb⟩
  · have e1 : min m n = m := by omega
    rw [e1] at HT
    clear e1
    have HE := Lib.hid (less_at true false t (by rw [← ht, cmpI_lt hmn]; rfl))
    clear ht
    go_enter Try.func19, Try.ntmps19
    go_wp2
    go_loopw [5] (fun i wr => ∃ k : Nat, k ≤ m ∧ i = .int .i64 k ∧ Hid (firstNZ c t k (m - k) = T) ∧ Below w.heap.size w wr) (fun i _ => m - (intOf i).toNat)
    case atStart => exact ⟨0, Nat.zero_le _, rfl, HT, Below.refl _ _⟩
    case round =>
      obtain ⟨k, hk, rfl, HF, hb⟩ := hrel
      by_cases hlt : k < m
      · have hA' := hA.below hb
        have hB' := hB.below hb
        have a0 := hA'.c0 k (by omega)
        have a1 := hA'.c1 k (by omega)
        have a2 := hA'.c2 k (by omega)
        have b0 := hB'.c0 k (by omega)
        have b1 := hB'.c1 k (by omega)
        have b2 := hB'.c2 k (by omega)
        have hkm : (k : Int) < (m : Int) := by omega
        have hkn : (k : Int) < (n : Int) := by omega
        clear hA' hB'
        go_wp2
        go_still_tail 8, (by kernel_rfl)
        change wpList _ _ _ _ _ wr.drew
        have hb2 := hb.drew
        generalize wr.drew = w2 at *
        clear a0 a1 a2 b0 b1 b2
        obtain ⟨hs0, hs1⟩ := firstNZ_step HF.out hlt
        go_wp2_with fail
        refine (HC.out k _).mono ?_
        rintro e w3 ⟨rfl, hb3⟩
        have hb4 := hb2.trans (hb3.mono (by have := hb2.size; omega))
        by_cases hz : c k = 0
        · have hz' : (c k != 0) = false := by simpa using hz
          have HS := Lib.hid (hs0 hz)
          clear hz hs0 hs1 HF
          go_wp2
          go_roundw
          case rel => exact ⟨k + 1, by omega, by go_num, HS, hb4⟩
          case measure => simp [intOf]; omega
        · have hz' : (c k != 0) = true := by simpa using hz
          have HS := Lib.hid (hs1 hz)
          clear hz hs0 hs1 HF
          go_wp2
          go_ret
          exact ⟨ret_i HS.out, hb4⟩
      · have HS := Lib.hid (firstNZ_end HF.out (by omega))
        have hk1 : ¬ (k : Int) < (m : Int) := by omega
        have f1 : (m : Int) < (n : Int) := by omega
        have f2 : ¬ (n : Int) < (m : Int) := by omega
        go_wp2_with (go_at_call 32; refine (HE.out _).mono ?_; rintro e w' ⟨rfl, rfl⟩)
        go_ret
        exact ⟨ret_i HS.out, hb⟩

theorem rrows_zero (a a' : Option Addr) (m cap n cap' : Nat) (hm : m ≤ maxLen) (hn : n ≤ maxLen) (hz : m = 0 ∨ n = 0) (w : World) :
    Calls Try.prog 19 #[.slice a m cap, .slice a' n cap'] w fun e w' => e = .returned (.int .i64 (cmpI m n)) ∧ Below w.heap.size w w' := by
  have hm' : m ≤ 9223372036854775807 := by unfold maxLen at hm; omega
  have hn' : n ≤ 9223372036854775807 := by unfold maxLen at hn; omega
  clear hm hn
  generalize ht : cmpI m n = t
  rcases Nat.lt_trichotomy n m with hmn | hmn | hmn
  ·
    obtain rfl : n = 0 := by omega
    have HE := Lib.hid (less_at false true t (by rw [← ht, cmpI_gt hmn]; rfl))
    clear hz ht
    go_enter Try.func19, Try.ntmps19
    go_wp2
    go_loopw [5] (fun i wr => i = .int .i64 0 ∧ wr = w) (fun _ _ => 0)
    case atStart => exact ⟨by first | rfl | simp, rfl⟩
    case round =>
      obtain ⟨rfl, rfl⟩ := hrel
      go_wp2_with (go_at_call 32; refine (HE.out _).mono ?_; rintro e w' ⟨rfl, rfl⟩)
      go_ret
      exact ⟨rfl, Below.refl _ _⟩
  ·
    subst hmn
    obtain rfl : n = 0 := by omega
    have HE := Lib.hid (less_at false false t (by rw [← ht, cmpI_eq]; rfl))
    clear hz ht
    go_enter Try.func19, Try.ntmps19
    go_wp2
    go_loopw [5] (fun i wr => i = .int .i64 0 ∧ wr = w) (fun _ _ => 0)
    case atStart => exact ⟨by first | rfl | simp, rfl⟩
    case round =>
      obtain ⟨rfl, rfl⟩ := hrel
      go_wp2_with (go_at_call 32; refine (HE.out _).mono ?_; rintro e w' ⟨rfl, rfl⟩)
      go_ret
      exact ⟨rfl, Below.refl _ _⟩
  ·
    obtain rfl : m = 0 := by omega
    have HE := Lib.hid (less_at true false t (by rw [← ht, cmpI_lt hmn]; rfl))
    clear hz ht
    go_enter Try.func19, Try.ntmps19
    go_wp2
    go_loopw [5] (fun i wr => i = .int .i64 0 ∧ wr = w) (fun _ _ => 0)
    case atStart => exact ⟨by first | rfl | simp, rfl⟩
    case round =>
      obtain ⟨rfl, rfl⟩ := hrel
      go_wp2_with (go_at_call 32; refine (HE.out _).mono ?_; rintro e w' ⟨rfl, rfl⟩)
      go_ret
      exact ⟨rfl, Below.refl _ _⟩

end Go.Proofs.Ytpknoclnmhomiaa
