/-
  ValueOpposites answers true at any two values: of two that are not Null each comparison holds just if its opposite does not, and turned about the turned one holds.
  Conditions: none but the row's own.
-/
import Derived.Test.YteeglmfjogoggabKeep
import Derived.Test.YteeglmfjogoggabChain
import Derived.Test.YteeglmfjogoggabRows
import Derived.WalkKit
import Derived.ProofKit
import Derived.OpenShut
import Derived.ShutString
import Derived.ChangeOld
import Derived.Below
import Derived.Carry
namespace Go.Proofs.Yteeglmfjogoggab.valueOpposites
open Go.ChangeShapes Go.WideShapes Go.ChangeAt Go.RowKit
open Go.Joins
set_option linter.unusedVariables false

theorem own : ownKnob Try.prog.godebug = none := by kernel_rfl
theorem laidOut : laidOutB Try.prog = true := by kernel_rfl

theorem cmpI_neg (a b : Int) : L b a 0 = -L a b 0 := by
  rcases L_cases a b 0 with ⟨c, e⟩ | ⟨c, e⟩ | ⟨c, e⟩ <;> rcases L_cases b a 0 with ⟨d, f⟩ | ⟨d, f⟩ | ⟨d, f⟩ <;> first | (exfalso; omega) | (rw [e, f]; done) | (rw [e, f]; rfl)

theorem bytes_neg : ∀ a b : List UInt8, Lib.compareBytes b a = -Lib.compareBytes a b
  | [], [] => rfl
  | [], _ :: _ => rfl
  | _ :: _, [] => rfl
  | a :: xs, b :: ys => by
    rw [cmp_L, cmp_L, bytes_neg xs ys]
    rcases L_cases a.toNat b.toNat (Lib.compareBytes xs ys) with ⟨c, e⟩ | ⟨c, e⟩ | ⟨c, e⟩ <;> rcases L_cases b.toNat a.toNat (-Lib.compareBytes xs ys) with ⟨d, f⟩ | ⟨d, f⟩ | ⟨d, f⟩ <;> first | (exfalso; omega) | (rw [e, f]; done) | (rw [e, f]; rfl)

theorem vcmp_neg (k n : Int) (s : ByteArray) (k' n' : Int) (s' : ByteArray) : VCmp k' n' s' k n s = -VCmp k n s k' n' s' := by
  rw [vcmp_L, vcmp_L]
  by_cases h : k = k'
  · subst h
    have e : ∀ x, L k k x = x := fun x => by unfold L; rw [if_neg (by omega), if_neg (by omega)]
    rw [e, e]
    by_cases c0 : k = 0
    · rw [if_pos c0, if_pos c0]; rfl
    · rw [if_neg c0, if_neg c0]
      by_cases c3 : k = 3
      · rw [if_pos c3, if_pos c3]; exact cmpI_neg _ _
      · rw [if_neg c3, if_neg c3]
        by_cases c4 : k = 4
        · rw [if_pos c4, if_pos c4]; exact bytes_neg _ _
        · rw [if_neg c4, if_neg c4]; exact cmpI_neg _ _
  · unfold L
    rcases Int.lt_or_gt_of_ne h with c | c
    · rw [if_neg (show ¬ k' < k by omega), if_pos c, if_pos c]; rfl
    · rw [if_pos c, if_neg (show ¬ k < k' by omega), if_pos c]

theorem is_nonnull (op k n : Int) (s : ByteArray) (k' n' : Int) (s' : ByteArray) (h : k ≠ 0) (h' : k' ≠ 0) : VIs op k n s k' n' s' = opIs op (VCmp k n s k' n' s') := by
  unfold VIs; rw [if_neg (by omega)]

theorem is_none' (op k n : Int) (s : ByteArray) (k' n' : Int) (s' : ByteArray) (h : k = 0 ∨ k' = 0) : VIs op k n s k' n' s' = 2 := by
  unfold VIs; rw [if_pos h]

set_option maxHeartbeats 2000000 in
theorem walk {H : Type} {enc : TypeId × Value → H} (base : Nat) (v0 : Value) (d0 : DataW H) (p0 : List MemPlace) (v1 : Value) (d1 : DataW H) (p1 : List MemPlace) (W : World)
    (o0 : Value.okWide Try.prog W .any base 24 v0) (h0 : DataW.Trod enc Try.prog W 0 (fun _ => true) true 24 v0 d0 p0)
    (o1 : Value.okWide Try.prog W .any base 24 v1) (h1 : DataW.Trod enc Try.prog W 0 (fun _ => true) true 24 v1 d1 p1) :
    Calls Try.prog 8 #[v0, v1] W fun e w' => e = .returned (.bool true) ∧ Below W.heap.size W w' := by
  obtain ⟨k, n, s, rfl, hk0, hn0, hs0⟩ := open_val o0 h0
  obtain ⟨k', n', s', rfl, hk1, hn1, hs1⟩ := open_val o1 h1
  clear o0 h0 o1 h1
  by_cases hnull : k = 0 ∨ k' = 0
  · have i1 := is_any 1 k n s k' n' s'
    have i6 := is_any 6 k n s k' n' s'
    rw [is_none' 1 k n s k' n' s' hnull] at i1
    rw [is_none' 6 k n s k' n' s' hnull] at i6
    unfold Vv at *
    have I1 := Lib.hid i1
    have I6 := Lib.hid i6
    clear i1 i6
    by_cases z0 : k = 0
    · subst z0
      clear hnull
      go_enter Try.func8, Try.ntmps8
      go_wp2_with fail
      refine (speaks2_any _).mono ?_
      rintro e v0 ⟨rfl, b0⟩
      have c0 : Below (W.heap.size + 2) ((W.alloc (.cells #[.int .i64 0, .int .i64 n, .string s] 24)).alloc (.cells #[.int .i64 k', .int .i64 n', .string s'] 24)) v0 := b0.mono (by first | (simp; done) | (simp; omega))
      clear b0
      obtain ⟨hc, hf⟩ := bcellB c0
      go_wp2_with fail
      refine (I1.out _).mono ?_
      rintro e v1 ⟨rfl, b1⟩
      have c1 := c0.trans (b1.mono (by have := (c0).size; simp at this; omega))
      clear b1 c0 hc hf
      obtain ⟨hc, hf⟩ := bcellB c1
      go_wp2_with fail
      refine (I6.out _).mono ?_
      rintro e v2 ⟨rfl, b2⟩
      have c2 := c1.trans (b2.mono (by have := (c1).size; simp at this; omega))
      clear b2 c1 hc hf
      obtain ⟨hc, hf⟩ := bcellB c2
      go_wp2
      go_ret
      exact ⟨rfl, (two_below _ _ _).trans (Below.mono c2 (by omega))⟩
    · obtain rfl : k' = 0 := by omega
      have z1 : (k == 0) = false := by simpa using z0
      clear hnull z0
      go_enter Try.func8, Try.ntmps8
      go_wp2_with fail
      refine (speaks2_any _).mono ?_
      rintro e v0 ⟨rfl, b0⟩
      have c0 : Below (W.heap.size + 2) ((W.alloc (.cells #[.int .i64 k, .int .i64 n, .string s] 24)).alloc (.cells #[.int .i64 0, .int .i64 n', .string s'] 24)) v0 := b0.mono (by first | (simp; done) | (simp; omega))
      clear b0
      obtain ⟨hc, hf⟩ := bcellB c0
      go_wp2_with fail
      refine (I1.out _).mono ?_
      rintro e v1 ⟨rfl, b1⟩
      have c1 := c0.trans (b1.mono (by have := (c0).size; simp at this; omega))
      clear b1 c0 hc hf
      obtain ⟨hc, hf⟩ := bcellB c1
      go_wp2_with fail
      refine (I6.out _).mono ?_
      rintro e v2 ⟨rfl, b2⟩
      have c2 := c1.trans (b2.mono (by have := (c1).size; simp at this; omega))
      clear b2 c1 hc hf
      obtain ⟨hc, hf⟩ := bcellB c2
      go_wp2
      go_ret
      exact ⟨rfl, (two_below _ _ _).trans (Below.mono c2 (by omega))⟩
  · have z0 : (k == 0) = false := by simp; omega
    have z1 : (k' == 0) = false := by simp; omega
    have i1a := is_any 1 k n s k' n' s'
    rw [is_nonnull 1 k n s k' n' s' (by omega) (by omega)] at i1a
    have i2a := is_any 2 k n s k' n' s'
    rw [is_nonnull 2 k n s k' n' s' (by omega) (by omega)] at i2a
    have i3a := is_any 3 k n s k' n' s'
    rw [is_nonnull 3 k n s k' n' s' (by omega) (by omega)] at i3a
    have i4a := is_any 4 k n s k' n' s'
    rw [is_nonnull 4 k n s k' n' s' (by omega) (by omega)] at i4a
    have i5a := is_any 5 k n s k' n' s'
    rw [is_nonnull 5 k n s k' n' s' (by omega) (by omega)] at i5a
    have i6a := is_any 6 k n s k' n' s'
    rw [is_nonnull 6 k n s k' n' s' (by omega) (by omega)] at i6a
    have i1b := is_any 1 k' n' s' k n s
    rw [is_nonnull 1 k' n' s' k n s (by omega) (by omega), vcmp_neg] at i1b
    have i3b := is_any 3 k' n' s' k n s
    rw [is_nonnull 3 k' n' s' k n s (by omega) (by omega), vcmp_neg] at i3b
    clear hnull
    have hv := vcmp_vals k n s k' n' s'
    generalize VCmp k n s k' n' s' = c at *
    unfold Vv at *
    rcases hv with rfl | rfl | rfl
    ·
      rw [show opIs 1 (-1) = 0 from rfl] at i1a
      have I1a := Lib.hid i1a
      clear i1a
      rw [show opIs 2 (-1) = 1 from rfl] at i2a
      have I2a := Lib.hid i2a
      clear i2a
      rw [show opIs 3 (-1) = 1 from rfl] at i3a
      have I3a := Lib.hid i3a
      clear i3a
      rw [show opIs 4 (-1) = 1 from rfl] at i4a
      have I4a := Lib.hid i4a
      clear i4a
      rw [show opIs 5 (-1) = 0 from rfl] at i5a
      have I5a := Lib.hid i5a
      clear i5a
      rw [show opIs 6 (-1) = 0 from rfl] at i6a
      have I6a := Lib.hid i6a
      clear i6a
      rw [show opIs 1 (- -1) = 0 from rfl] at i1b
      have I1b := Lib.hid i1b
      clear i1b
      rw [show opIs 3 (- -1) = 0 from rfl] at i3b
      have I3b := Lib.hid i3b
      clear i3b
      go_enter Try.func8, Try.ntmps8
      go_wp2_with fail
      refine (speaks2_any _).mono ?_
      rintro e w0 ⟨rfl, b0⟩
      obtain ⟨hc, hf⟩ := bcell b0
      have a0 : w0.cell? ⟨W.heap.size, 0, none⟩ = some (.int .i64 k) := by rw [hc _ _ (by first | (simp; done) | (simp; omega))]; go_simp
      have a1 : w0.cell? ⟨W.heap.size, 1, none⟩ = some (.int .i64 n) := by rw [hc _ _ (by first | (simp; done) | (simp; omega))]; go_simp
      have a2 : w0.cell? ⟨W.heap.size, 2, none⟩ = some (.string s) := by rw [hc _ _ (by first | (simp; done) | (simp; omega))]; go_simp
      have a3 : w0.cell? ⟨W.heap.size + 1, 0, none⟩ = some (.int .i64 k') := by rw [hc _ _ (by first | (simp; done) | (simp; omega))]; go_simp
      have a4 : w0.cell? ⟨W.heap.size + 1, 1, none⟩ = some (.int .i64 n') := by rw [hc _ _ (by first | (simp; done) | (simp; omega))]; go_simp
      have a5 : w0.cell? ⟨W.heap.size + 1, 2, none⟩ = some (.string s') := by rw [hc _ _ (by first | (simp; done) | (simp; omega))]; go_simp
      have hh : Below (W.heap.size + 2) ((W.alloc (.cells #[.int .i64 k, .int .i64 n, .string s] 24)).alloc (.cells #[.int .i64 k', .int .i64 n', .string s'] 24)) w0 := b0.mono (by first | (simp; done) | (simp; omega))
      clear hc hf b0
      go_wp2_with fail
      go_region_held3 (fun w' => Below (W.heap.size + 2) ((W.alloc (.cells #[.int .i64 k, .int .i64 n, .string s] 24)).alloc (.cells #[.int .i64 k', .int .i64 n', .string s'] 24)) w' ∧ w'.cell? ⟨W.heap.size, 0, none⟩ = some (.int .i64 k) ∧ w'.cell? ⟨W.heap.size, 1, none⟩ = some (.int .i64 n) ∧ w'.cell? ⟨W.heap.size, 2, none⟩ = some (.string s) ∧ w'.cell? ⟨W.heap.size + 1, 0, none⟩ = some (.int .i64 k') ∧ w'.cell? ⟨W.heap.size + 1, 1, none⟩ = some (.int .i64 n') ∧ w'.cell? ⟨W.heap.size + 1, 2, none⟩ = some (.string s'))
        (first | exact ⟨by first | assumption | exact Below.drew (by assumption), by assumption, by assumption, by assumption, by assumption, by assumption, by assumption⟩ | (go_split_ands; exact keep2 (by assumption) (by first | (simp; done) | (simp; omega)) (by omega) hb (by assumption) (by assumption) (by assumption) (by assumption) (by assumption) (by assumption)))
        ((go_at_call 15; first | (with_reducible refine (I1a.out _).mono ?_; rintro e w' ⟨rfl, hb⟩) | (with_reducible refine (I3a.out _).mono ?_; rintro e w' ⟨rfl, hb⟩) | (with_reducible refine (I5a.out _).mono ?_; rintro e w' ⟨rfl, hb⟩)))
      go_split_ands
      rename_i c0 _ _ _ _ _ _
      obtain ⟨hc, hf⟩ := bcellB c0
      go_wp2_with fail
      refine (I2a.out _).mono ?_
      rintro e v1 ⟨rfl, b1⟩
      have c1 := c0.trans (b1.mono (by have := (c0).size; simp at this; omega))
      clear b1 c0 hc hf
      obtain ⟨hc, hf⟩ := bcellB c1
      go_wp2_with fail
      refine (I6a.out _).mono ?_
      rintro e v2 ⟨rfl, b2⟩
      have c2 := c1.trans (b2.mono (by have := (c1).size; simp at this; omega))
      clear b2 c1 hc hf
      obtain ⟨hc, hf⟩ := bcellB c2
      go_wp2_with fail
      refine (I4a.out _).mono ?_
      rintro e v3 ⟨rfl, b3⟩
      have c3 := c2.trans (b3.mono (by have := (c2).size; simp at this; omega))
      clear b3 c2 hc hf
      obtain ⟨hc, hf⟩ := bcellB c3
      go_wp2_with fail
      refine (I3b.out _).mono ?_
      rintro e v4 ⟨rfl, b4⟩
      have c4 := c3.trans (b4.mono (by have := (c3).size; simp at this; omega))
      clear b4 c3 hc hf
      obtain ⟨hc, hf⟩ := bcellB c4
      go_wp2_with fail
      refine (I1b.out _).mono ?_
      rintro e v5 ⟨rfl, b5⟩
      have c5 := c4.trans (b5.mono (by have := (c4).size; simp at this; omega))
      clear b5 c4 hc hf
      obtain ⟨hc, hf⟩ := bcellB c5
      go_wp2
      go_ret
      exact ⟨rfl, (two_below _ _ _).trans (Below.mono c5 (by omega))⟩
    ·
      rw [show opIs 1 (0) = 1 from rfl] at i1a
      have I1a := Lib.hid i1a
      clear i1a
      rw [show opIs 2 (0) = 0 from rfl] at i2a
      have I2a := Lib.hid i2a
      clear i2a
      rw [show opIs 3 (0) = 0 from rfl] at i3a
      have I3a := Lib.hid i3a
      clear i3a
      rw [show opIs 4 (0) = 1 from rfl] at i4a
      have I4a := Lib.hid i4a
      clear i4a
      rw [show opIs 5 (0) = 0 from rfl] at i5a
      have I5a := Lib.hid i5a
      clear i5a
      rw [show opIs 6 (0) = 1 from rfl] at i6a
      have I6a := Lib.hid i6a
      clear i6a
      rw [show opIs 1 (-0) = 1 from rfl] at i1b
      have I1b := Lib.hid i1b
      clear i1b
      rw [show opIs 3 (-0) = 0 from rfl] at i3b
      have I3b := Lib.hid i3b
      clear i3b
      go_enter Try.func8, Try.ntmps8
      go_wp2_with fail
      refine (speaks2_any _).mono ?_
      rintro e w0 ⟨rfl, b0⟩
      obtain ⟨hc, hf⟩ := bcell b0
      have a0 : w0.cell? ⟨W.heap.size, 0, none⟩ = some (.int .i64 k) := by rw [hc _ _ (by first | (simp; done) | (simp; omega))]; go_simp
      have a1 : w0.cell? ⟨W.heap.size, 1, none⟩ = some (.int .i64 n) := by rw [hc _ _ (by first | (simp; done) | (simp; omega))]; go_simp
      have a2 : w0.cell? ⟨W.heap.size, 2, none⟩ = some (.string s) := by rw [hc _ _ (by first | (simp; done) | (simp; omega))]; go_simp
      have a3 : w0.cell? ⟨W.heap.size + 1, 0, none⟩ = some (.int .i64 k') := by rw [hc _ _ (by first | (simp; done) | (simp; omega))]; go_simp
      have a4 : w0.cell? ⟨W.heap.size + 1, 1, none⟩ = some (.int .i64 n') := by rw [hc _ _ (by first | (simp; done) | (simp; omega))]; go_simp
      have a5 : w0.cell? ⟨W.heap.size + 1, 2, none⟩ = some (.string s') := by rw [hc _ _ (by first | (simp; done) | (simp; omega))]; go_simp
      have hh : Below (W.heap.size + 2) ((W.alloc (.cells #[.int .i64 k, .int .i64 n, .string s] 24)).alloc (.cells #[.int .i64 k', .int .i64 n', .string s'] 24)) w0 := b0.mono (by first | (simp; done) | (simp; omega))
      clear hc hf b0
      go_wp2_with fail
      go_region_held3 (fun w' => Below (W.heap.size + 2) ((W.alloc (.cells #[.int .i64 k, .int .i64 n, .string s] 24)).alloc (.cells #[.int .i64 k', .int .i64 n', .string s'] 24)) w' ∧ w'.cell? ⟨W.heap.size, 0, none⟩ = some (.int .i64 k) ∧ w'.cell? ⟨W.heap.size, 1, none⟩ = some (.int .i64 n) ∧ w'.cell? ⟨W.heap.size, 2, none⟩ = some (.string s) ∧ w'.cell? ⟨W.heap.size + 1, 0, none⟩ = some (.int .i64 k') ∧ w'.cell? ⟨W.heap.size + 1, 1, none⟩ = some (.int .i64 n') ∧ w'.cell? ⟨W.heap.size + 1, 2, none⟩ = some (.string s'))
        (first | exact ⟨by first | assumption | exact Below.drew (by assumption), by assumption, by assumption, by assumption, by assumption, by assumption, by assumption⟩ | (go_split_ands; exact keep2 (by assumption) (by first | (simp; done) | (simp; omega)) (by omega) hb (by assumption) (by assumption) (by assumption) (by assumption) (by assumption) (by assumption)))
        ((go_at_call 15; first | (with_reducible refine (I1a.out _).mono ?_; rintro e w' ⟨rfl, hb⟩) | (with_reducible refine (I3a.out _).mono ?_; rintro e w' ⟨rfl, hb⟩) | (with_reducible refine (I5a.out _).mono ?_; rintro e w' ⟨rfl, hb⟩)))
      go_split_ands
      rename_i c0 _ _ _ _ _ _
      obtain ⟨hc, hf⟩ := bcellB c0
      go_wp2_with fail
      refine (I2a.out _).mono ?_
      rintro e v1 ⟨rfl, b1⟩
      have c1 := c0.trans (b1.mono (by have := (c0).size; simp at this; omega))
      clear b1 c0 hc hf
      obtain ⟨hc, hf⟩ := bcellB c1
      go_wp2_with fail
      refine (I6a.out _).mono ?_
      rintro e v2 ⟨rfl, b2⟩
      have c2 := c1.trans (b2.mono (by have := (c1).size; simp at this; omega))
      clear b2 c1 hc hf
      obtain ⟨hc, hf⟩ := bcellB c2
      go_wp2_with fail
      refine (I4a.out _).mono ?_
      rintro e v3 ⟨rfl, b3⟩
      have c3 := c2.trans (b3.mono (by have := (c2).size; simp at this; omega))
      clear b3 c2 hc hf
      obtain ⟨hc, hf⟩ := bcellB c3
      go_wp2_with fail
      refine (I3b.out _).mono ?_
      rintro e v4 ⟨rfl, b4⟩
      have c4 := c3.trans (b4.mono (by have := (c3).size; simp at this; omega))
      clear b4 c3 hc hf
      obtain ⟨hc, hf⟩ := bcellB c4
      go_wp2_with fail
      refine (I1b.out _).mono ?_
      rintro e v5 ⟨rfl, b5⟩
      have c5 := c4.trans (b5.mono (by have := (c4).size; simp at this; omega))
      clear b5 c4 hc hf
      obtain ⟨hc, hf⟩ := bcellB c5
      go_wp2
      go_ret
      exact ⟨rfl, (two_below _ _ _).trans (Below.mono c5 (by omega))⟩
    ·
      rw [show opIs 1 (1) = 0 from rfl] at i1a
      have I1a := Lib.hid i1a
      clear i1a
      rw [show opIs 2 (1) = 1 from rfl] at i2a
      have I2a := Lib.hid i2a
      clear i2a
      rw [show opIs 3 (1) = 0 from rfl] at i3a
      have I3a := Lib.hid i3a
      clear i3a
      rw [show opIs 4 (1) = 0 from rfl] at i4a
      have I4a := Lib.hid i4a
      clear i4a
      rw [show opIs 5 (1) = 1 from rfl] at i5a
      have I5a := Lib.hid i5a
      clear i5a
      rw [show opIs 6 (1) = 1 from rfl] at i6a
      have I6a := Lib.hid i6a
      clear i6a
      rw [show opIs 1 (-1) = 0 from rfl] at i1b
      have I1b := Lib.hid i1b
      clear i1b
      rw [show opIs 3 (-1) = 1 from rfl] at i3b
      have I3b := Lib.hid i3b
      clear i3b
      go_enter Try.func8, Try.ntmps8
      go_wp2_with fail
      refine (speaks2_any _).mono ?_
      rintro e w0 ⟨rfl, b0⟩
      obtain ⟨hc, hf⟩ := bcell b0
      have a0 : w0.cell? ⟨W.heap.size, 0, none⟩ = some (.int .i64 k) := by rw [hc _ _ (by first | (simp; done) | (simp; omega))]; go_simp
      have a1 : w0.cell? ⟨W.heap.size, 1, none⟩ = some (.int .i64 n) := by rw [hc _ _ (by first | (simp; done) | (simp; omega))]; go_simp
      have a2 : w0.cell? ⟨W.heap.size, 2, none⟩ = some (.string s) := by rw [hc _ _ (by first | (simp; done) | (simp; omega))]; go_simp
      have a3 : w0.cell? ⟨W.heap.size + 1, 0, none⟩ = some (.int .i64 k') := by rw [hc _ _ (by first | (simp; done) | (simp; omega))]; go_simp
      have a4 : w0.cell? ⟨W.heap.size + 1, 1, none⟩ = some (.int .i64 n') := by rw [hc _ _ (by first | (simp; done) | (simp; omega))]; go_simp
      have a5 : w0.cell? ⟨W.heap.size + 1, 2, none⟩ = some (.string s') := by rw [hc _ _ (by first | (simp; done) | (simp; omega))]; go_simp
      have hh : Below (W.heap.size + 2) ((W.alloc (.cells #[.int .i64 k, .int .i64 n, .string s] 24)).alloc (.cells #[.int .i64 k', .int .i64 n', .string s'] 24)) w0 := b0.mono (by first | (simp; done) | (simp; omega))
      clear hc hf b0
      go_wp2_with fail
      go_region_held3 (fun w' => Below (W.heap.size + 2) ((W.alloc (.cells #[.int .i64 k, .int .i64 n, .string s] 24)).alloc (.cells #[.int .i64 k', .int .i64 n', .string s'] 24)) w' ∧ w'.cell? ⟨W.heap.size, 0, none⟩ = some (.int .i64 k) ∧ w'.cell? ⟨W.heap.size, 1, none⟩ = some (.int .i64 n) ∧ w'.cell? ⟨W.heap.size, 2, none⟩ = some (.string s) ∧ w'.cell? ⟨W.heap.size + 1, 0, none⟩ = some (.int .i64 k') ∧ w'.cell? ⟨W.heap.size + 1, 1, none⟩ = some (.int .i64 n') ∧ w'.cell? ⟨W.heap.size + 1, 2, none⟩ = some (.string s'))
        (first | exact ⟨by first | assumption | exact Below.drew (by assumption), by assumption, by assumption, by assumption, by assumption, by assumption, by assumption⟩ | (go_split_ands; exact keep2 (by assumption) (by first | (simp; done) | (simp; omega)) (by omega) hb (by assumption) (by assumption) (by assumption) (by assumption) (by assumption) (by assumption)))
        ((go_at_call 15; first | (with_reducible refine (I1a.out _).mono ?_; rintro e w' ⟨rfl, hb⟩) | (with_reducible refine (I3a.out _).mono ?_; rintro e w' ⟨rfl, hb⟩) | (with_reducible refine (I5a.out _).mono ?_; rintro e w' ⟨rfl, hb⟩)))
      go_split_ands
      rename_i c0 _ _ _ _ _ _
      obtain ⟨hc, hf⟩ := bcellB c0
      go_wp2_with fail
      refine (I2a.out _).mono ?_
      rintro e v1 ⟨rfl, b1⟩
      have c1 := c0.trans (b1.mono (by have := (c0).size; simp at this; omega))
      clear b1 c0 hc hf
      obtain ⟨hc, hf⟩ := bcellB c1
      go_wp2_with fail
      refine (I6a.out _).mono ?_
      rintro e v2 ⟨rfl, b2⟩
      have c2 := c1.trans (b2.mono (by have := (c1).size; simp at this; omega))
      clear b2 c1 hc hf
      obtain ⟨hc, hf⟩ := bcellB c2
      go_wp2_with fail
      refine (I4a.out _).mono ?_
      rintro e v3 ⟨rfl, b3⟩
      have c3 := c2.trans (b3.mono (by have := (c2).size; simp at this; omega))
      clear b3 c2 hc hf
      obtain ⟨hc, hf⟩ := bcellB c3
      go_wp2_with fail
      refine (I3b.out _).mono ?_
      rintro e v4 ⟨rfl, b4⟩
      have c4 := c3.trans (b4.mono (by have := (c3).size; simp at this; omega))
      clear b4 c3 hc hf
      obtain ⟨hc, hf⟩ := bcellB c4
      go_wp2_with fail
      refine (I1b.out _).mono ?_
      rintro e v5 ⟨rfl, b5⟩
      have c5 := c4.trans (b5.mono (by have := (c4).size; simp at this; omega))
      clear b5 c4 hc hf
      obtain ⟨hc, hf⟩ := bcellB c5
      go_wp2
      go_ret
      exact ⟨rfl, (two_below _ _ _).trans (Below.mono c5 (by omega))⟩

set_option maxRecDepth 100000 in
theorem lifted (os : Os) (started : os.Started) (H : Type) (enc : TypeId × Value → H) :
    ReturnsInHanded {} Try.checked os 8 .any (Rows.valueOppositesSpec.pre6 enc Try.prog Try.f8 Rows.valueOppositesRow.domain false) (Rows.valueOppositesSpec.post enc Try.prog Try.f8 false true false false) := by
  refine returnsInHanded_of_change (C := Try.checked) own started (by kernel_rfl) Try.func8
    (ChangeSpec.witness6 (enc := enc) (C := Try.checked) false ⟨#[], #[.agg #[.int .i64 0, .int .i64 0, .string ByteArray.empty], .agg #[.int .i64 0, .int .i64 0, .string ByteArray.empty]], []⟩ 8 (by kernel_rfl) (by kernel_rfl) (by kernel_rfl) (by kernel_rfl)) ?_
  intro W base args ds gs before hval0 hW hcnd _
  have hval : ∀ (j : Nat) t v, Try.f8.params[j]? = some t → args[j]? = some v → Value.okWide Try.prog W .any base t v := hval0
  have hW' := hW
  obtain ⟨p, q, hA0, hV, rfl, hfz, hnd⟩ := hW
  have hA : DataW.TrodAll enc Try.prog W 0 (fun _ => true) true Try.f8.params.toList args.toList ds p := hA0
  rw [Try.params8] at hA hval
  obtain ⟨v0, vs0, d0, ds0, p0, q0, hargs, rfl, rfl, h0, r0⟩ := trodAll_cons hA
  obtain ⟨v1, vs1, d1, ds1, p1, q1, rfl, rfl, rfl, h1, r1⟩ := trodAll_cons r0
  obtain ⟨rfl, rfl, rfl⟩ := trodAll_nil r1
  obtain rfl : args = #[v0, v1] := by cases args; simp_all
  obtain ⟨rfl, rfl⟩ := trodVars_none hV
  have lt0 : ∀ x ∈ p0, x.block < W.heap.size := by obtain ⟨m, hm⟩ := h0; exact DataW.trod_lt m _ _ _ hm
  have lt1 : ∀ x ∈ p1, x.block < W.heap.size := by obtain ⟨m, hm⟩ := h1; exact DataW.trod_lt m _ _ _ hm
  refine (walk (enc := enc) base v0 d0 p0 v1 d1 p1 W (hval 0 24 v0 rfl rfl) h0 (hval 1 24 v1 rfl rfl) h1).mono fun e W' ⟨he, bel⟩ => ?_
  subst he
  exact ⟨_, rfl, _, _, _, [], _, [], hW', trodAll_mk1 (shut_bool Try.underlying4 _), (trodAll_cons_mk (Below.trod laidOut (by kernel_rfl) (of_decide_eq_true (by kernel_rfl)) h0 bel lt0) (trodAll_cons_mk (Below.trod laidOut (by kernel_rfl) (of_decide_eq_true (by kernel_rfl)) h1 bel lt1) trodAll_mk0)), rfl, bel.frame _, fun h => by cases h⟩

theorem over : Rows.valueOppositesRow.holds Try.pinned (OpenSpec.ofChange Rows.valueOppositesSpec) :=
  OpenClaim.holds_of_wide 8 Try.f8 rfl rfl rfl rfl rfl rfl rfl ⟨rfl, rfl, rfl, rfl, rfl⟩ rfl rfl rfl rfl rfl (by kernel_rfl) Try.func8 (by kernel_rfl)
    (of_decide_eq_true (by kernel_rfl)) (by unfold Func.isWrapper; first | (rw [if_pos (by decide +kernel)]; kernel_rfl) | (rw [if_neg (by decide +kernel)]; exact ⟨rfl, rfl⟩))
    (fun os started H enc _ => lifted os started H enc)

theorem proved : Rows.ValueOppositesSaid :=
  over
end Go.Proofs.Yteeglmfjogoggab.valueOpposites
