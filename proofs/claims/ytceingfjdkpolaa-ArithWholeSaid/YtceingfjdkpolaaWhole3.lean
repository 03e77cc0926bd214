/-
  Reals as whole numbers: the document's answer over the translation.
  Conditions: the argument is an int64 number.
-/
import Derived.Test.YtceingfjdkpolaaWhole2
namespace Go.Proofs.Ytceingfjdkpolaa
open Go.RowKit
set_option linter.unusedVariables false

/-- the parts of a number, as a contract on variables -/
def PartsAre (a : Int) (s x f : Nat) : Prop := ∀ w, Calls Try.prog 31 #[.int .i64 a] w fun e w' => e = .returned (.tuple #[.int .i64 s, .int .i64 x, .int .i64 f]) ∧ w = w'

theorem rt_nan (a : Int) (s x f : Nat) (hp : PartsAre a s x f) (hs : s < 2) (hx : x < 2048) (hf : f < 4503599627370496) (h : x = 2047) (w : World) :
    Calls Try.prog 24 #[.int .i64 a] w fun e w' => e = .returned (.tuple #[.int .i64 0, .int .i64 10]) ∧ w = w' := by
  have HP := Lib.hid hp
  clear hp
  unfold PartsAre at HP
  subst h
  go_enter Try.func24, Try.ntmps24
  go_wp2_with (go_at_call 31; refine (HP.out _).mono ?_; rintro e w' ⟨rfl, rfl⟩)
  go_ret2
  exact ⟨rfl, rfl⟩

theorem rt_big (a : Int) (s x f : Nat) (hp : PartsAre a s x f) (hs : s < 2) (hx : x < 2048) (hf : f < 4503599627370496) (h : 1086 < x) (h2 : x ≠ 2047) (w : World) :
    Calls Try.prog 24 #[.int .i64 a] w fun e w' => e = .returned (.tuple #[.int .i64 0, .int .i64 10]) ∧ w = w' := by
  have HP := Lib.hid hp
  clear hp
  unfold PartsAre at HP
  have h3 : ((x : Int) == 2047) = false := by simp; omega
  clear h2
  go_enter Try.func24, Try.ntmps24
  go_wp2_with (go_at_call 31; refine (HP.out _).mono ?_; rintro e w' ⟨rfl, rfl⟩)
  go_ret2
  exact ⟨rfl, rfl⟩

theorem rt_edge0 (a : Int) (s x f : Nat) (hp : PartsAre a s x f) (hs : s < 2) (hx : x < 2048) (hf : f < 4503599627370496) (h : x = 1086) (h2 : s = 0) (w : World) :
    Calls Try.prog 24 #[.int .i64 a] w fun e w' => e = .returned (.tuple #[.int .i64 0, .int .i64 10]) ∧ w = w' := by
  have HP := Lib.hid hp
  clear hp
  unfold PartsAre at HP
  subst h h2
  go_enter Try.func24, Try.ntmps24
  go_wp2_with (go_at_call 31; refine (HP.out _).mono ?_; rintro e w' ⟨rfl, rfl⟩)
  go_ret2
  exact ⟨rfl, rfl⟩

theorem rt_edge1 (a : Int) (s x f : Nat) (hp : PartsAre a s x f) (hs : s < 2) (hx : x < 2048) (hf : f < 4503599627370496) (h : x = 1086) (h2 : s = 1) (h3 : f ≠ 0) (w : World) :
    Calls Try.prog 24 #[.int .i64 a] w fun e w' => e = .returned (.tuple #[.int .i64 0, .int .i64 10]) ∧ w = w' := by
  have HP := Lib.hid hp
  clear hp
  unfold PartsAre at HP
  subst h h2
  have h4 : ((f : Int) == 0) = false := by simp; omega
  clear h3
  go_enter Try.func24, Try.ntmps24
  go_wp2_with (go_at_call 31; refine (HP.out _).mono ?_; rintro e w' ⟨rfl, rfl⟩)
  go_ret2
  exact ⟨rfl, rfl⟩

set_option maxRecDepth 100000 in
theorem rt_small (a : Int) (s x f : Nat) (hp : PartsAre a s x f) (hs : s < 2) (hx : x < 2048) (hf : f < 4503599627370496) (h : x < 1023) (w : World) :
    Calls Try.prog 24 #[.int .i64 a] w fun e w' => e = .returned (.tuple #[.int .i64 (0), .int .i64 0]) ∧ w = w' := by
  have HP := Lib.hid hp
  clear hp
  unfold PartsAre at HP
  have h3 : ((x : Int) == 2047) = false := by simp; omega
  have h4 : ((x : Int) == 1086) = false := by simp; omega
  go_enter Try.func24, Try.ntmps24
  go_wp2_with (go_at_call 31; refine (HP.out _).mono ?_; rintro e w' ⟨rfl, rfl⟩)
  go_ret2
  exact ⟨rfl, rfl⟩

set_option maxRecDepth 100000 in
theorem rt_min (a : Int) (s x f : Nat) (hp : PartsAre a s x f) (hs : s < 2) (hx : x < 2048) (hf : f < 4503599627370496) (h : x = 1086) (h2 : s = 1) (h3 : f = 0) (w : World) :
    Calls Try.prog 24 #[.int .i64 a] w fun e w' => e = .returned (.tuple #[.int .i64 (-9223372036854775808), .int .i64 0]) ∧ w = w' := by
  have HP := Lib.hid hp
  clear hp
  unfold PartsAre at HP
  subst h h2 h3
  go_enter Try.func24, Try.ntmps24
  go_wp2_with (go_at_call 31; refine (HP.out _).mono ?_; rintro e w' ⟨rfl, rfl⟩)
  go_ret2
  exact ⟨ret_i2 (by first | rfl | (unfold wrap64; rfl)) rfl, rfl⟩

set_option maxRecDepth 100000 in
theorem rt_down0 (a : Int) (s x f : Nat) (hp : PartsAre a s x f) (hs : s < 2) (hx : x < 2048) (hf : f < 4503599627370496) (h : 1023 ≤ x) (h2 : x ≤ 1075) (hz : s = 0) (T : Nat) (hT : T < 9223372036854775808) (ht : (((f : Int) + 4503599627370496) / 2 ^ (1075 - x) = (T : Int))) (w : World) :
    Calls Try.prog 24 #[.int .i64 a] w fun e w' => e = .returned (.tuple #[.int .i64 (T), .int .i64 0]) ∧ w = w' := by
  have HP := Lib.hid hp
  clear hp
  unfold PartsAre at HP
  subst hz
  have h3 : ((x : Int) == 2047) = false := by simp; omega
  have h4 : ((x : Int) == 1086) = false := by simp; omega
  go_enter Try.func24, Try.ntmps24
  go_wp2_with (go_at_call 31; refine (HP.out _).mono ?_; rintro e w' ⟨rfl, rfl⟩)
  go_ret2
  exact ⟨ret_i2 (by first | rfl | omega) rfl, rfl⟩

set_option maxRecDepth 100000 in
theorem rt_down1 (a : Int) (s x f : Nat) (hp : PartsAre a s x f) (hs : s < 2) (hx : x < 2048) (hf : f < 4503599627370496) (h : 1023 ≤ x) (h2 : x ≤ 1075) (hz : s = 1) (T : Nat) (hT : T < 9223372036854775808) (ht : (((f : Int) + 4503599627370496) / 2 ^ (1075 - x) = (T : Int))) (w : World) :
    Calls Try.prog 24 #[.int .i64 a] w fun e w' => e = .returned (.tuple #[.int .i64 (-(T : Int)), .int .i64 0]) ∧ w = w' := by
  have HP := Lib.hid hp
  clear hp
  unfold PartsAre at HP
  subst hz
  have h3 : ((x : Int) == 2047) = false := by simp; omega
  have h4 : ((x : Int) == 1086) = false := by simp; omega
  obtain ⟨v, hv⟩ : ∃ v : Nat, v = (18446744073709551616 - T) % 18446744073709551616 := ⟨_, rfl⟩
  have hw : IntKind.u64.wrap (-(T : Int)) = (v : Int) := by rw [IntKind.wrap_u64]; omega
  have hw2 : IntKind.u64.wrap (0 - (T : Int)) = (v : Int) := by rw [IntKind.wrap_u64]; omega
  have hv2 : wrap64 (v : Int) = -(T : Int) := by unfold wrap64; omega
  have HV := Lib.hid hv2
  clear hv2 hv
  go_enter Try.func24, Try.ntmps24
  go_wp2_with (go_at_call 31; refine (HP.out _).mono ?_; rintro e w' ⟨rfl, rfl⟩)
  go_ret2
  exact ⟨ret_i2 HV.out rfl, rfl⟩

set_option maxRecDepth 100000 in
theorem rt_up0 (a : Int) (s x f : Nat) (hp : PartsAre a s x f) (hs : s < 2) (hx : x < 2048) (hf : f < 4503599627370496) (h : 1075 < x) (h2 : x ≤ 1085) (hz : s = 0) (T : Nat) (hT : T < 9223372036854775808) (ht : (IntKind.u64.wrap (((f : Int) + 4503599627370496) * 2 ^ (x - 1075)) = (T : Int))) (w : World) :
    Calls Try.prog 24 #[.int .i64 a] w fun e w' => e = .returned (.tuple #[.int .i64 (T), .int .i64 0]) ∧ w = w' := by
  have HP := Lib.hid hp
  clear hp
  unfold PartsAre at HP
  subst hz
  have h3 : ((x : Int) == 2047) = false := by simp; omega
  have h4 : ((x : Int) == 1086) = false := by simp; omega
  go_enter Try.func24, Try.ntmps24
  go_wp2_with (go_at_call 31; refine (HP.out _).mono ?_; rintro e w' ⟨rfl, rfl⟩)
  go_ret2
  exact ⟨ret_i2 (by first | rfl | omega) rfl, rfl⟩

set_option maxRecDepth 100000 in
theorem rt_up1 (a : Int) (s x f : Nat) (hp : PartsAre a s x f) (hs : s < 2) (hx : x < 2048) (hf : f < 4503599627370496) (h : 1075 < x) (h2 : x ≤ 1085) (hz : s = 1) (T : Nat) (hT : T < 9223372036854775808) (ht : (IntKind.u64.wrap (((f : Int) + 4503599627370496) * 2 ^ (x - 1075)) = (T : Int))) (w : World) :
    Calls Try.prog 24 #[.int .i64 a] w fun e w' => e = .returned (.tuple #[.int .i64 (-(T : Int)), .int .i64 0]) ∧ w = w' := by
  have HP := Lib.hid hp
  clear hp
  unfold PartsAre at HP
  subst hz
  have h3 : ((x : Int) == 2047) = false := by simp; omega
  have h4 : ((x : Int) == 1086) = false := by simp; omega
  obtain ⟨v, hv⟩ : ∃ v : Nat, v = (18446744073709551616 - T) % 18446744073709551616 := ⟨_, rfl⟩
  have hw : IntKind.u64.wrap (-(T : Int)) = (v : Int) := by rw [IntKind.wrap_u64]; omega
  have hw2 : IntKind.u64.wrap (0 - (T : Int)) = (v : Int) := by rw [IntKind.wrap_u64]; omega
  have hv2 : wrap64 (v : Int) = -(T : Int) := by unfold wrap64; omega
  have HV := Lib.hid hv2
  clear hv2 hv
  go_enter Try.func24, Try.ntmps24
  go_wp2_with (go_at_call 31; refine (HP.out _).mono ?_; rintro e w' ⟨rfl, rfl⟩)
  go_ret2
  exact ⟨ret_i2 HV.out rfl, rfl⟩

theorem TI_small {x f : Nat} (h : x < 1023) (hf : f < 4503599627370496) : TI (x * 4503599627370496 + f) = 0 := by
  have hM := M_lt (x * 4503599627370496 + f)
  have hE : E (x * 4503599627370496 + f) ≤ 1021 := by unfold E; omega
  unfold TI
  rw [if_neg (by omega)]
  apply Nat.div_eq_of_lt
  have : 2 ^ 53 ≤ 2 ^ (1074 - E (x * 4503599627370496 + f)) := Nat.pow_le_pow_right (by decide) (by omega)
  omega

theorem parts_ME {x f : Nat} (h : 1 ≤ x) (hf : f < 4503599627370496) : E (x * 4503599627370496 + f) = x - 1 ∧ M (x * 4503599627370496 + f) = 4503599627370496 + f := by
  constructor
  · unfold E; omega
  · unfold M; rw [if_neg (by omega)]; omega

theorem TI_down {x f : Nat} (h : 1023 ≤ x) (h2 : x ≤ 1075) (hf : f < 4503599627370496) : ((f : Int) + 4503599627370496) / 2 ^ (1075 - x) = (TI (x * 4503599627370496 + f) : Int) := by
  obtain ⟨e1, e2⟩ := parts_ME (x := x) (by omega) hf
  have e : ((f : Int) + 4503599627370496) = ((4503599627370496 + f : Nat) : Int) := by omega
  rw [e, castdiv]
  unfold TI
  rw [e1, e2]
  by_cases c : x = 1075
  · subst c; rw [if_pos (by decide)]; simp
  · rw [if_neg (by omega), show 1074 - (x - 1) = 1075 - x from by omega]

theorem TI_up {x f : Nat} (h : 1075 < x) (h2 : x ≤ 1085) (hf : f < 4503599627370496) : IntKind.u64.wrap (((f : Int) + 4503599627370496) * 2 ^ (x - 1075)) = (TI (x * 4503599627370496 + f) : Int) := by
  obtain ⟨e1, e2⟩ := parts_ME (x := x) (by omega) hf
  have hl := TI_lt (r := x * 4503599627370496 + f) (by omega)
  have e : ((f : Int) + 4503599627370496) = ((4503599627370496 + f : Nat) : Int) := by omega
  have ht : TI (x * 4503599627370496 + f) = (4503599627370496 + f) * 2 ^ (x - 1075) := by
    unfold TI
    rw [e1, e2, if_pos (by omega), show x - 1 - 1074 = x - 1075 from by omega]
  rw [e, castpow, ← Int.natCast_mul, ← ht, IntKind.wrap_u64]
  omega

theorem reftoint_any (a : Int) (w : World) :
    Calls Try.prog 24 #[.int .i64 a] w fun e w' => e = .returned (.tuple #[.int .i64 (if tbad (ub a) then 0 else TW (ub a)), .int .i64 (if tbad (ub a) then 10 else 0)]) ∧ w = w' := by
  have hp : PartsAre a _ _ _ := fun w => parts_any a w
  have hr := ub_parts a
  have hsg := ub_sign a
  have hlt := ub_lt a
  have hs : ub a / 9223372036854775808 < 2 := by omega
  have hx : ub a / 4503599627370496 % 2048 < 2048 := Nat.mod_lt _ (by decide)
  have hf : ub a % 4503599627370496 < 4503599627370496 := Nat.mod_lt _ (by decide)
  have hbad := tbad_iff (ub a)
  unfold TW
  rw [hr, hsg] at *
  generalize ub a / 9223372036854775808 = s at *
  generalize ub a / 4503599627370496 % 2048 = x at *
  generalize ub a % 4503599627370496 = f at *
  generalize tbad (ub a) = b at *
  unfold KW INF at hbad
  have hB : b = true → (if b then (0 : Int) else (if decide (s = 1) then -(TI (x * 4503599627370496 + f) : Int) else (TI (x * 4503599627370496 + f) : Int))) = 0 ∧ (if b then (10 : Int) else 0) = 10 := by
    intro h; rw [h]; exact ⟨rfl, rfl⟩
  have hG : b = false → (if b then (0 : Int) else (if decide (s = 1) then -(TI (x * 4503599627370496 + f) : Int) else (TI (x * 4503599627370496 + f) : Int))) = (if decide (s = 1) then -(TI (x * 4503599627370496 + f) : Int) else (TI (x * 4503599627370496 + f) : Int)) ∧ (if b then (10 : Int) else 0) = 0 := by
    intro h; rw [h]; exact ⟨rfl, rfl⟩
  by_cases c1 : x = 2047
  · obtain ⟨g1, g2⟩ := hB (hbad.2 (by rcases (show s = 0 ∨ s = 1 by omega) with z | z <;> subst z <;> simp <;> omega))
    rw [g1, g2]; exact rt_nan a s x f hp hs hx hf c1 w
  by_cases c2 : 1086 < x
  · obtain ⟨g1, g2⟩ := hB (hbad.2 (by rcases (show s = 0 ∨ s = 1 by omega) with z | z <;> subst z <;> simp <;> omega))
    rw [g1, g2]; exact rt_big a s x f hp hs hx hf c2 c1 w
  by_cases c3 : x = 1086
  · rcases (show s = 0 ∨ s = 1 by omega) with z | z
    · obtain ⟨g1, g2⟩ := hB (hbad.2 (by subst z; simp; omega))
      rw [g1, g2]; exact rt_edge0 a s x f hp hs hx hf c3 z w
    · by_cases c4 : f = 0
      · have hb0 : b = false := by
          rw [← Bool.not_eq_true, hbad]; subst z; simp; omega
        obtain ⟨g1, g2⟩ := hG hb0
        have ht : TI (x * 4503599627370496 + f) = 9223372036854775808 := by subst c3 c4; exact TI_edge
        rw [g1, g2, if_pos (by simpa using z), ht]
        exact rt_min a s x f hp hs hx hf c3 z c4 w
      · obtain ⟨g1, g2⟩ := hB (hbad.2 (by subst z; simp; omega))
        rw [g1, g2]; exact rt_edge1 a s x f hp hs hx hf c3 z c4 w
  have hb0 : b = false := by
    rw [← Bool.not_eq_true, hbad]
    rcases (show s = 0 ∨ s = 1 by omega) with z | z <;> subst z <;> simp <;> omega
  obtain ⟨g1, g2⟩ := hG hb0
  rw [g1, g2]
  by_cases c5 : x < 1023
  · rw [TI_small c5 hf]
    simp only [Int.natCast_zero, Int.neg_zero, ite_self]
    exact rt_small a s x f hp hs hx hf c5 w
  have hl := TI_lt (r := x * 4503599627370496 + f) (by omega)
  by_cases c6 : x ≤ 1075
  · have ht := TI_down (by omega) c6 hf
    rcases (show s = 0 ∨ s = 1 by omega) with z | z
    · rw [if_neg (by simp; omega)]
      exact rt_down0 a s x f hp hs hx hf (by omega) c6 z _ hl ht w
    · rw [if_pos (by simpa using z)]
      exact rt_down1 a s x f hp hs hx hf (by omega) c6 z _ hl ht w
  · have ht := TI_up (x := x) (by omega) (by omega) hf
    rcases (show s = 0 ∨ s = 1 by omega) with z | z
    · rw [if_neg (by simp; omega)]
      exact rt_up0 a s x f hp hs hx hf (by omega) (by omega) z _ hl ht w
    · rw [if_pos (by simpa using z)]
      exact rt_up1 a s x f hp hs hx hf (by omega) (by omega) z _ hl ht w

end Go.Proofs.Ytceingfjdkpolaa
