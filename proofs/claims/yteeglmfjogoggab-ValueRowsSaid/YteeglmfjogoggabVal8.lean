/-
  Contracts over the translation: the order of two lists of values, of package value (layer 2) and of the document's answer.
  Conditions: the lists lie in memory.
-/
import Derived.Test.YteeglmfjogoggabVal4
import Derived.StillTailTactics
namespace Go.Proofs.Yteeglmfjogoggab
open Go.RowKit Go.Joins Go.ChangeShapes Go.WideShapes
set_option linter.unusedVariables false

/-- a list of values in memory, by its kinds, numbers and texts -/
structure IsV (w : World) (b off len : Nat) (kf nf : Nat → Int) (sf : Nat → ByteArray) : Prop where
  hb : 0 < len → b < w.heap.size
  c0 : ∀ i, i < len → w.cell? ⟨b, off + i * 3, none⟩ = some (.int .i64 (kf i))
  c1 : ∀ i, i < len → w.cell? ⟨b, off + i * 3 + 1, none⟩ = some (.int .i64 (nf i))
  c2 : ∀ i, i < len → w.cell? ⟨b, off + i * 3 + 2, none⟩ = some (.string (sf i))

theorem IsV.below {w w' : World} {b off len : Nat} {kf nf : Nat → Int} {sf : Nat → ByteArray} (h : IsV w b off len kf nf sf) (hw : Below w.heap.size w w') : IsV w' b off len kf nf sf := by
  obtain ⟨hc, _⟩ := bcell hw
  refine ⟨fun hl => Nat.lt_of_lt_of_le (h.hb hl) hw.size, fun i hi => ?_, fun i hi => ?_, fun i hi => ?_⟩
  · rw [hc _ _ (h.hb (by omega))]; exact h.c0 i hi
  · rw [hc _ _ (h.hb (by omega))]; exact h.c1 i hi
  · rw [hc _ _ (h.hb (by omega))]; exact h.c2 i hi

/-- the first of c's numbers from i on that isn't 0, of r; t, if there is none -/
def firstNZ (c : Nat → Int) (t : Int) : Nat → Nat → Int
  | _, 0 => t
  | i, r + 1 => if c i = 0 then firstNZ c t (i + 1) r else c i

theorem firstNZ_step {c : Nat → Int} {t T : Int} {k n : Nat} (h : firstNZ c t k (n - k) = T) (hk : k < n) : (c k = 0 → firstNZ c t (k + 1) (n - (k + 1)) = T) ∧ (c k ≠ 0 → c k = T) := by
  obtain ⟨r, hr⟩ : ∃ r, n - k = r + 1 := ⟨n - k - 1, by omega⟩
  rw [hr] at h
  unfold firstNZ at h
  rw [show n - (k + 1) = r from by omega]
  constructor
  · intro hz; rw [if_pos hz] at h; exact h
  · intro hz; rw [if_neg hz] at h; exact h

theorem firstNZ_end {c : Nat → Int} {t T : Int} {k n : Nat} (h : firstNZ c t k (n - k) = T) (hk : n ≤ k) : t = T := by
  rw [show n - k = 0 from by omega] at h
  exact h

theorem vrows_some (b off m cap b' off' n cap' : Nat) (kf nf : Nat → Int) (sf : Nat → ByteArray) (kf' nf' : Nat → Int) (sf' : Nat → ByteArray) (hm : m ≤ maxLen) (hn : n ≤ maxLen) (w : World)
    (hA : IsV w b off m kf nf sf) (hB : IsV w b' off' n kf' nf' sf') :
    Calls Try.prog 18 #[.slice (some ⟨b, off, none⟩) m cap, .slice (some ⟨b', off', none⟩) n cap'] w fun e w' =>
      e = .returned (.int .i64 (firstNZ (fun i => VCmp (kf i) (nf i) (sf i) (kf' i) (nf' i) (sf' i)) (cmpI m n) 0 (min m n))) ∧ Below w.heap.size w w' := by
  have hm' : m ≤ 9223372036854775807 := by unfold maxLen at hm; omega
  have hn' : n ≤ 9223372036854775807 := by unfold maxLen at hn; omega
  clear hm hn
  generalize hc : (fun i => VCmp (kf i) (nf i) (sf i) (kf' i) (nf' i) (sf' i)) = c
  have hcmp : ∀ k w, Calls Try.prog 13 #[Vv (kf k) (nf k) (sf k), Vv (kf' k) (nf' k) (sf' k)] w fun e w' => e = .returned (.int .i64 (c k)) ∧ Below w.heap.size w w' := by
    intro k w; rw [← hc]; exact compare_any _ _ _ _ _ _ w
  clear hc
  generalize ht : cmpI m n = t
  have hend : ∀ w, Calls Try.prog 29 #[.int .i64 m, .int .i64 n] w fun e w' => e = .returned (.int .i64 t) ∧ w = w' := by
    intro w; rw [← ht]; exact cmpint_any _ _ w
  clear ht
  generalize hT : firstNZ c t 0 (min m n) = T
  have HT := Lib.hid hT
  have HC := Lib.hid hcmp
  have HE := Lib.hid hend
  clear hT hcmp hend
  unfold Vv at HC
  rcases Nat.lt_or_ge n m with hmn | hmn
  · have e1 : min m n = n := by omega
    rw [e1] at HT
    clear e1
    go_enter Try.func18, Try.ntmps18
    go_wp2
    go_loopw [12] (fun i wr => ∃ k : Nat, k ≤ n ∧ i = .int .i64 k ∧ Hid (firstNZ c t k (n - k) = T) ∧ Below w.heap.size w wr) (fun i _ => n - (intOf i).toNat)
    case atStart => exact ⟨0, Nat.zero_le _, rfl, HT, Below.refl _ _⟩
    case round =>
      obtain ⟨k, hk, rfl, HF, hb⟩ := hrel
      by_cases hlt : k < n
      · have hA' := hA.below hb
        have hB' := hB.below hb
        have a0 := hA'.c0 k (by omega)
        have a1 := hA'.c1 k (by omega)
        have a2 := hA'.c2 k (by omega)
        have b0 := hB'.c0 k (by omega)
        have b1 := hB'.c1 k (by omega)
        have b2 := hB'.c2 k (by omega)
        have hkm : (k : Int) < (m : Int) := by omega
        clear hA' hB'
        go_wp2
        go_still_tail 8, (by kernel_rfl)
        change wpList _ _ _ _ _ wr.drew
        have hb2 := hb.drew
        generalize wr.drew = w2 at *
        clear a0 a1 a2 b0 b1 b2
        obtain ⟨hs0, hs1⟩ := firstNZ_step HF.out hlt
        go_wp2_with fail
        refine (HC.out k _).mono ?_
        rintro e w3 ⟨rfl, hb3⟩
        have hb4 := hb2.trans (hb3.mono (by have := hb2.size; omega))
        by_cases hz : c k = 0
        · have hz' : (c k != 0) = false := by simpa using hz
          have HS := Lib.hid (hs0 hz)
          clear hz hs0 hs1 HF
          go_wp2
          go_roundw
          case rel => exact ⟨k + 1, by omega, by go_num, HS, hb4⟩
          case measure => simp [intOf]; omega
        · have hz' : (c k != 0) = true := by simpa using hz
          have HS := Lib.hid (hs1 hz)
          clear hz hs0 hs1 HF
          go_wp2
          go_ret
          exact ⟨ret_i HS.out, hb4⟩
      · have HS := Lib.hid (firstNZ_end HF.out (by omega))
        go_wp2_with (go_at_call 29; refine (HE.out _).mono ?_; rintro e w' ⟨rfl, rfl⟩)
        go_ret
        exact ⟨ret_i HS.out, hb⟩
  · have e1 : min m n = m := by omega
    rw [e1] at HT
    clear e1
    go_enter Try.func18, Try.ntmps18
    go_wp2
    go_loopw [12] (fun i wr => ∃ k : Nat, k ≤ m ∧ i = .int .i64 k ∧ Hid (firstNZ c t k (m - k) = T) ∧ Below w.heap.size w wr) (fun i _ => m - (intOf i).toNat)
    case atStart => exact ⟨0, Nat.zero_le _, rfl, HT, Below.refl _ _⟩
    case round =>
      obtain ⟨k, hk, rfl, HF, hb⟩ := hrel
      by_cases hlt : k < m
      · have hA' := hA.below hb
        have hB' := hB.below hb
        have a0 := hA'.c0 k (by omega)
        have a1 := hA'.c1 k (by omega)
        have a2 := hA'.c2 k (by omega)
        have b0 := hB'.c0 k (by omega)
        have b1 := hB'.c1 k (by omega)
        have b2 := hB'.c2 k (by omega)
        have hkm : (k : Int) < (n : Int) := by omega
        clear hA' hB'
        go_wp2
        go_still_tail 8, (by kernel_rfl)
        change wpList _ _ _ _ _ wr.drew
        have hb2 := hb.drew
        generalize wr.drew = w2 at *
        clear a0 a1 a2 b0 b1 b2
        obtain ⟨hs0, hs1⟩ := firstNZ_step HF.out hlt
        go_wp2_with fail
        refine (HC.out k _).mono ?_
        rintro e w3 ⟨rfl, hb3⟩
        have hb4 := hb2.trans (hb3.mono (by have := hb2.size; omega))
        by_cases hz : c k = 0
        · have hz' : (c k != 0) = false := by simpa using hz
          have HS := Lib.hid (hs0 hz)
          clear hz hs0 hs1 HF
          go_wp2
          go_roundw
          case rel => exact ⟨k + 1, by omega, by go_num, HS, hb4⟩
          case measure => simp [intOf]; omega
        · have hz' : (c k != 0) = true := by simpa using hz
          have HS := Lib.hid (hs1 hz)
          clear hz hs0 hs1 HF
          go_wp2
          go_ret
          exact ⟨ret_i HS.out, hb4⟩
      · have HS := Lib.hid (firstNZ_end HF.out (by omega))
        go_wp2_with (go_at_call 29; refine (HE.out _).mono ?_; rintro e w' ⟨rfl, rfl⟩)
        go_ret
        exact ⟨ret_i HS.out, hb⟩

theorem vrows_zero (a a' : Option Addr) (m cap n cap' : Nat) (hm : m ≤ maxLen) (hn : n ≤ maxLen) (hz : m = 0 ∨ n = 0) (w : World) :
    Calls Try.prog 18 #[.slice a m cap, .slice a' n cap'] w fun e w' => e = .returned (.int .i64 (cmpI m n)) ∧ Below w.heap.size w w' := by
  have hm' : m ≤ 9223372036854775807 := by unfold maxLen at hm; omega
  have hn' : n ≤ 9223372036854775807 := by unfold maxLen at hn; omega
  clear hm hn
  have hend : ∀ w, Calls Try.prog 29 #[.int .i64 m, .int .i64 n] w fun e w' => e = .returned (.int .i64 (cmpI m n)) ∧ w = w' := by
    intro w; exact cmpint_any _ _ w
  generalize cmpI m n = t at *
  have HE := Lib.hid hend
  clear hend
  rcases Nat.lt_or_ge n m with hmn | hmn
  · obtain rfl : n = 0 := by omega
    clear hz
    go_enter Try.func18, Try.ntmps18
    go_wp2
    go_loopw [12] (fun i wr => i = .int .i64 0 ∧ wr = w) (fun _ _ => 0)
    case atStart => exact ⟨by first | rfl | simp, rfl⟩
    case round =>
      obtain ⟨rfl, rfl⟩ := hrel
      go_wp2_with (go_at_call 29; refine (HE.out _).mono ?_; rintro e w' ⟨rfl, rfl⟩)
      go_ret
      exact ⟨rfl, Below.refl _ _⟩
  · obtain rfl : m = 0 := by omega
    clear hz
    go_enter Try.func18, Try.ntmps18
    go_wp2
    go_loopw [12] (fun i wr => i = .int .i64 0 ∧ wr = w) (fun _ _ => 0)
    case atStart => exact ⟨by first | rfl | simp, rfl⟩
    case round =>
      obtain ⟨rfl, rfl⟩ := hrel
      go_wp2_with (go_at_call 29; refine (HE.out _).mono ?_; rintro e w' ⟨rfl, rfl⟩)
      go_ret
      exact ⟨rfl, Below.refl _ _⟩

end Go.Proofs.Yteeglmfjogoggab
