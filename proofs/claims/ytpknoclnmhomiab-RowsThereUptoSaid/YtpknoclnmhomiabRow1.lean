/-
  haspref06.Fit: what is wrong with a row for columns.
  Conditions: the lists lie in memory; the row's texts are not too long for a slice.
-/
import Derived.Test.YtpknoclnmhomiabCol2
import Derived.Test.YtpknoclnmhomiabVal3
import Derived.BigQuiet
namespace Go.Proofs.Ytpknoclnmhomiab
open Go.RowKit Go.Joins Go.ChangeShapes Go.WideShapes
set_option linter.unusedVariables false

/-- what is wrong with one value for one column -/
def fitStep (tf : Nat → Int) (qf : Nat → Bool) (kf nf : Nat → Int) (sf : Nat → ByteArray) (i : Nat) : Int :=
  if VCheck (kf i) (nf i) (sf i) = 0 then (if kf i = 0 then (if qf i = true then 60 else 0) else if kf i = tf i then 0 else 30) else VCheck (kf i) (nf i) (sf i)
/-- .. with a row -/
def fitV (m n : Nat) (tf : Nat → Int) (qf : Nat → Bool) (kf nf : Nat → Int) (sf : Nat → ByteArray) : Int :=
  if m = n then firstNZ (fitStep tf qf kf nf sf) 0 0 n else 61

theorem reffit_any (a a' : Option Addr) (b off m cap b' off' n cap' : Nat) (mf : Nat → ByteArray) (tf : Nat → Int) (qf : Nat → Bool) (kf nf : Nat → Int) (sf : Nat → ByteArray) (hm : m ≤ maxLen) (hn : n ≤ maxLen) (w : World)
    (ha : m = 0 ∨ a = some ⟨b, off, none⟩) (ha' : n = 0 ∨ a' = some ⟨b', off', none⟩) (hA : IsC w b off m mf tf qf) (hB : IsV w b' off' n kf nf sf)
    (hr : ∀ i, i < n → InI (nf i) ∧ (sf i).size ≤ maxLen) :
    Calls Try.prog 14 #[.slice a m cap, .slice a' n cap'] w fun e w' => e = .returned (.int .i64 (fitV m n tf qf kf nf sf)) ∧ Below w.heap.size w w' := by
  have hm' : m ≤ 9223372036854775807 := by unfold maxLen at hm; omega
  have hn' : n ≤ 9223372036854775807 := by unfold maxLen at hn; omega
  clear hm hn
  generalize hT : fitV m n tf qf kf nf sf = T
  unfold fitV at hT
  have HX := Lib.hid hT
  clear hT
  by_cases hmn : m = n
  · subst hmn
    have hT := HX.out
    rw [if_pos rfl] at hT
    have hc : ∀ k, k < m → ∀ w, Calls Try.prog 22 #[Vv (kf k) (nf k) (sf k)] w fun e w' => e = .returned (.int .i64 (VCheck (kf k) (nf k) (sf k))) ∧ Below w.heap.size w w' :=
      fun k hk w => refcheck_any _ _ _ (hr k hk).1 (hr k hk).2 w
    have hstep : ∀ k, fitStep tf qf kf nf sf k = if VCheck (kf k) (nf k) (sf k) = 0 then (if kf k = 0 then (if qf k = true then 60 else 0) else if kf k = tf k then 0 else 30) else VCheck (kf k) (nf k) (sf k) := fun k => rfl
    generalize hck : (fun k => VCheck (kf k) (nf k) (sf k)) = ck
    have hck' : ∀ k, VCheck (kf k) (nf k) (sf k) = ck k := fun k => congrFun hck k
    simp only [hck'] at hc hstep
    clear hck hck' HX hr
    unfold Vv at hc
    generalize hf : fitStep tf qf kf nf sf = f
    rw [hf] at hT hstep
    clear hf
    have HT := Lib.hid hT
    have HC := Lib.hid hc
    have HS := Lib.hid hstep
    clear hT hc hstep
    go_enter Try.func14, Try.ntmps14
    go_wp2
    go_loopw [5] (fun i wr => ∃ k : Nat, k ≤ m ∧ i = .int .i64 k ∧ Hid (firstNZ f 0 k (m - k) = T) ∧ Below w.heap.size w wr) (fun i _ => m - (intOf i).toNat)
    case atStart => exact ⟨0, Nat.zero_le _, rfl, HT, Below.refl _ _⟩
    case round =>
      obtain ⟨k, hk, rfl, HF, hb⟩ := hrel
      by_cases hlt : k < m
      · obtain rfl : a = some ⟨b, off, none⟩ := by rcases ha with h | h; omega; exact h
        obtain rfl : a' = some ⟨b', off', none⟩ := by rcases ha' with h | h; omega; exact h
        have hB' := hB.below hb
        have b0 := hB'.c0 k (by omega)
        have b1 := hB'.c1 k (by omega)
        have b2 := hB'.c2 k (by omega)
        have hkm : (k : Int) < (m : Int) := by omega
        clear hB'
        go_wp2_with fail
        refine (HC.out k hlt _).mono ?_
        rintro e w3 ⟨rfl, hb3⟩
        have hb4 := stepB hb hb3
        clear b0 b1 b2
        obtain ⟨hs0, hs1⟩ := firstNZ_step HF.out hlt
        have hsk := HS.out k
        by_cases hz : ck k = 0
        · have hz' : (ck k != 0) = false := by simpa using hz
          rw [if_pos hz] at hsk
          have hA' := hA.below hb4
          have hB' := hB.below hb4
          have a1 := hA'.c1 k (by omega)
          have a2 := hA'.c2 k (by omega)
          have b0 := hB'.c0 k (by omega)
          clear hA' hB' hz HF
          by_cases h0 : kf k = 0
          · rw [if_pos h0] at hsk
            rw [h0] at b0
            by_cases hq : qf k = true
            · rw [if_pos hq] at hsk
              rw [hq] at a2
              have HR := Lib.hid ((hsk.symm.trans (hs1 (by rw [hsk]; decide))))
              clear hsk hs0 hs1 h0 hq
              go_wp2
              go_ret
              exact ⟨ret_i HR.out, hb4⟩
            · rw [if_neg hq] at hsk
              have hq2 : qf k = false := by simpa using hq
              rw [hq2] at a2
              have HR := Lib.hid (hs0 hsk)
              clear hsk hs0 hs1 h0 hq hq2
              go_wp2
              go_roundw
              case rel => exact ⟨k + 1, by omega, by go_num, HR, hb4⟩
              case measure => simp [intOf]; omega
          · rw [if_neg h0] at hsk
            have h0' : (kf k == 0) = false := by simpa using h0
            by_cases ht : kf k = tf k
            · rw [if_pos ht] at hsk
              have HR := Lib.hid (hs0 hsk)
              have ht' : (kf k != tf k) = false := by simpa using ht
              clear hsk hs0 hs1 h0 ht
              go_wp2
              go_quiet (fail)
              go_wp2
              go_roundw
              case rel => exact ⟨k + 1, by omega, by go_num, HR, hb4.trans ⟨rfl, rfl, rfl, Nat.le_refl _, fun _ _ => rfl⟩⟩
              case measure => simp [intOf]; omega
            · rw [if_neg ht] at hsk
              have HR := Lib.hid ((hsk.symm.trans (hs1 (by rw [hsk]; decide))))
              have ht' : (kf k != tf k) = true := by simpa using ht
              clear hsk hs0 hs1 h0 ht
              go_wp2
              go_quiet (fail)
              go_wp2
              go_ret
              exact ⟨ret_i HR.out, hb4.trans ⟨rfl, rfl, rfl, Nat.le_refl _, fun _ _ => rfl⟩⟩
        · have hz' : (ck k != 0) = true := by simpa using hz
          rw [if_neg hz] at hsk
          have HR := Lib.hid ((hsk.symm.trans (hs1 (by rw [hsk]; exact hz))))
          clear hz hs0 hs1 hsk HF
          go_wp2
          go_ret
          exact ⟨ret_i HR.out, hb4⟩
      · have HR := Lib.hid (firstNZ_end HF.out (by omega))
        have hk1 : ¬ (k : Int) < (m : Int) := by omega
        clear HF
        go_wp2
        go_ret
        exact ⟨ret_i HR.out, hb⟩
  · have hT := HX.out
    rw [if_neg hmn] at hT
    have HR := Lib.hid hT
    have hne : ((m : Int) != (n : Int)) = true := by
      have : (m : Int) ≠ n := by omega
      simpa using this
    clear hT HX hr hA hB ha ha'
    go_enter Try.func14, Try.ntmps14
    go_wp2
    go_ret
    exact ⟨ret_i HR.out, Below.refl _ _⟩

end Go.Proofs.Ytpknoclnmhomiab
