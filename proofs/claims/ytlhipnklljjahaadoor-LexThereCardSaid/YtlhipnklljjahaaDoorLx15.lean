/-
  Numbers and texts of a statement as functions of its bytes (layer 12).
  Conditions: none.
-/
import Derived.Test.YtlhipnklljjahaaDoorLx13
import Derived.Test.YtlhipnklljjahaaDoorLx14
namespace Go.Proofs.YtlhipnklljjahaaDoor
set_option maxRecDepth 100000
open Go.RowKit Go.Joins Go.ChangeShapes Go.WideShapes
set_option linter.unusedVariables false
set_option linter.unusedSimpArgs false

theorem decF_ge (l : List Nat) (acc : Nat) : acc ≤ l.foldl (fun n c => n * 10 + (c - 48)) acc := by
  rw [decF]
  have : acc * 1 ≤ acc * 10 ^ l.length := Nat.mul_le_mul_left _ (Nat.one_le_pow _ _ (by omega))
  omega
theorem parse_u : ∀ (l : List Nat) (acc : Nat), (∀ x ∈ l, dgL x = true) → acc ≤ 18446744073709551615 →
    Lib.parseUintM 18446744073709551615 acc (l.map UInt8.ofNat) = if 18446744073709551615 < l.foldl (fun n c => n * 10 + (c - 48)) acc then .range else .ok (l.foldl (fun n c => n * 10 + (c - 48)) acc)
  | [], acc, _, h => by
    show Lib.NumEnd.ok acc = if 18446744073709551615 < acc then _ else Lib.NumEnd.ok acc
    rw [if_neg (by omega)]
  | c :: r, acc, hd, h => by
    have hc := (dg_iff c).1 (hd c (List.mem_cons_self ..))
    have hn : (UInt8.ofNat c).toNat = c := by rw [UInt8.toNat_ofNat', Nat.mod_eq_of_lt (by omega)]
    have hge := decF_ge r (acc * 10 + (c - 48))
    show Lib.parseUintM _ acc (UInt8.ofNat c :: r.map UInt8.ofNat) = if 18446744073709551615 < r.foldl (fun n c => n * 10 + (c - 48)) (acc * 10 + (c - 48)) then _ else .ok (r.foldl (fun n c => n * 10 + (c - 48)) (acc * 10 + (c - 48)))
    rw [Lib.parseUintM, hn, if_pos hc]
    by_cases c1 : 1844674407370955162 ≤ acc
    · rw [if_pos c1, if_pos (by omega)]
    · rw [if_neg c1]
      by_cases c2 : 18446744073709551615 < acc * 10 + (c - 48)
      · rw [if_pos c2, if_pos (by omega)]
      · rw [if_neg c2]
        exact parse_u r _ (fun x hx => hd x (List.mem_cons_of_mem _ hx)) (by omega)
/-- digits as a number -/
theorem parse_dec (l : List Nat) (hd : ∀ x ∈ l, dgL x = true) (h0 : 0 < l.length) : Lib.parseIntB 64 (l.map UInt8.ofNat) = if 9223372036854775807 < decL l then .range else .ok (decL l : Int) := by
  cases l with
  | nil => simp at h0
  | cons c r =>
    have hc := (dg_iff c).1 (hd c (List.mem_cons_self ..))
    have hn : (UInt8.ofNat c).toNat = c := by rw [UInt8.toNat_ofNat', Nat.mod_eq_of_lt (by omega)]
    have hu := parse_u (c :: r) 0 hd (by omega)
    have hu2 : Lib.parseUintM 18446744073709551615 0 (UInt8.ofNat c :: r.map UInt8.ofNat) = if 18446744073709551615 < decL (c :: r) then .range else .ok (decL (c :: r)) := hu
    have e : Lib.parseUintB 64 (UInt8.ofNat c :: r.map UInt8.ofNat) = if 18446744073709551615 < decL (c :: r) then .range else .ok (decL (c :: r)) := by
      unfold Lib.parseUintB
      rw [if_neg (by simp)]
      exact hu2
    show Lib.parseIntB 64 (UInt8.ofNat c :: r.map UInt8.ofNat) = _
    unfold Lib.parseIntB
    simp only [hn]
    rw [if_neg (by omega), e]
    have n45 : ¬ c = 45 := by omega
    by_cases c1 : 18446744073709551615 < decL (c :: r)
    · rw [if_pos c1, if_pos (by omega)]
    · rw [if_neg c1]
      simp only [n45, if_false, not_false_iff, true_and, false_and]
      by_cases c2 : 9223372036854775807 < decL (c :: r)
      · rw [if_pos c2, if_pos (by omega)]
      · rw [if_neg c2, if_neg (by omega)]
theorem nq_iff (x : Nat) : nqL x = true ↔ x ≠ 39 := by
  unfold nqL
  simp
theorem textL_q {c : Nat} (r : List Nat) (h : c ≠ 39) : textL (c :: r) = (textL r).map (fun x => (c :: x.1, x.2 + 1)) := by
  rw [textL.eq_def]
  simp only [h, if_false]
/-- a run of bytes that aren't quotes -/
theorem textL_run : ∀ l : List Nat, textL l = (textL (l.drop (runL nqL l))).map (fun x => (l.take (runL nqL l) ++ x.1, runL nqL l + x.2))
  | [] => rfl
  | c :: r => by
    rw [runL_cons]
    by_cases h : nqL c = true
    · rw [if_pos h, List.drop_succ_cons, List.take_succ_cons, textL_q r ((nq_iff c).1 h), textL_run r, Option.map_map]
      congr 1
      funext x
      show (c :: (r.take (runL nqL r) ++ x.1), runL nqL r + x.2 + 1) = (c :: r.take (runL nqL r) ++ x.1, runL nqL r + 1 + x.2)
      rw [Nat.add_right_comm]
      rfl
    · rw [if_neg h, List.drop_zero, List.take_zero]
      cases textL (c :: r) with
      | none => rfl
      | some x => simp
theorem drop_nq (l : List Nat) : l.drop (runL nqL l) = [] ∨ ∃ s, l.drop (runL nqL l) = 39 :: s := by
  induction l with
  | nil => exact .inl rfl
  | cons c r ih =>
    rw [runL_cons]
    by_cases h : nqL c = true
    · rw [if_pos h, List.drop_succ_cons]
      exact ih
    · rw [if_neg h, List.drop_zero]
      have : c = 39 := by
        cases Nat.decEq c 39 with
        | isTrue e => exact e
        | isFalse e => exact absurd ((nq_iff c).2 e) h
      exact .inr ⟨r, by rw [this]⟩
theorem textL_end {s : List Nat} (h : ∀ d t, s = d :: t → d ≠ 39) : textL (39 :: s) = some ([], 1) := by
  rw [textL.eq_def]
  cases s with
  | nil => rfl
  | cons d t =>
    have := h d t rfl
    simp only [this, if_true, if_false]
theorem textL_two (s : List Nat) : textL (39 :: 39 :: s) = (textL s).map (fun x => (39 :: x.1, x.2 + 2)) := by
  rw [textL.eq_def]
  simp only [if_true]
/-- where a run of a sort ends -/
theorem runL_at {f : Nat → Bool} (h0 : f 0 = false) : ∀ (l : List Nat) (k : Nat), k ≤ runL f l → (f (l.getD k 0) = true → k < runL f l) ∧ (f (l.getD k 0) = false → k = runL f l)
  | [], k, h => by
    have : k = 0 := by have : runL f [] = 0 := rfl; omega
    subst this
    refine ⟨fun h => ?_, fun _ => rfl⟩
    rw [show ([] : List Nat).getD 0 0 = 0 from rfl, h0] at h
    cases h
  | c :: r, k, h => by
    rw [runL_cons] at h ⊢
    by_cases hc : f c = true
    · rw [if_pos hc] at h ⊢
      cases k with
      | zero =>
        refine ⟨fun _ => by omega, fun h => ?_⟩
        rw [show (c :: r).getD 0 0 = c from rfl, hc] at h
        cases h
      | succ k =>
        rw [show (c :: r).getD (k + 1) 0 = r.getD k 0 from rfl]
        obtain ⟨h1, h2⟩ := runL_at h0 r k (by omega)
        exact ⟨fun h => by have := h1 h; omega, fun h => by rw [h2 h]⟩
    · rw [if_neg hc] at h ⊢
      have : k = 0 := by omega
      subst this
      refine ⟨fun h => ?_, fun _ => rfl⟩
      exact absurd h hc

end Go.Proofs.YtlhipnklljjahaaDoor
