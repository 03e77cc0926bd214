/-
  Contracts over the translation: the type of an operator's answer, by package arith; a list of whole numbers in memory.
  Conditions: the list lies in memory.
-/
import Derived.Test.YtceingfjdkpolaaAri4
import Derived.Test.YtceingfjdkpolaaKp
namespace Go.Proofs.Ytceingfjdkpolaa
open Go.RowKit Go.Joins Go.ChangeShapes Go.WideShapes
set_option linter.unusedVariables false

/-- a list of whole numbers in memory -/
structure IsI (w : World) (b off len : Nat) (f : Nat → Int) : Prop where
  hb : 0 < len → b < w.heap.size
  c : ∀ i, i < len → w.cell? ⟨b, off + i, none⟩ = some (.int .i64 (f i))

theorem IsI.below {w w' : World} {b off len : Nat} {f : Nat → Int} (h : IsI w b off len f) (hw : Below w.heap.size w w') : IsI w' b off len f := by
  obtain ⟨hc, _⟩ := bcell hw
  exact ⟨fun hl => Nat.lt_of_lt_of_le (h.hb hl) hw.size, fun i hi => by rw [hc _ _ (h.hb (by omega))]; exact h.c i hi⟩

theorem ret_ib {k : IntKind} {a b : Int} {x y : Bool} (h : a = b) (g : x = y) : Ending.returned (.tuple #[.int k a, .bool x]) = .returned (.tuple #[.int k b, .bool y]) := by rw [h, g]

theorem common_one (b off cap : Nat) (f : Nat → Int) (w : World) (hA : IsI w b off 1 f) :
    Calls Try.prog 28 #[.slice (some ⟨b, off, none⟩) 1 cap] w fun e w' => e = .returned (.tuple #[.int .i64 (f 0), .bool true]) ∧ w = w' := by
  have a0 := hA.c 0 (by decide)
  generalize f 0 = t at *
  clear hA
  rw [Nat.add_zero] at a0
  by_cases h : t = 0
  · subst h
    go_enter Try.func28, Try.ntmps28
    go_wp2
    go_loop [9, 4, 6] (fun i c z => (i = .int .i64 0 ∨ i = .int .i64 1) ∧ c = .int .i64 0) (fun i _ _ => 1 - (intOf i).toNat)
    case atStart => exact ⟨.inl rfl, rfl⟩
    case round =>
      obtain ⟨rfl | rfl, rfl⟩ := hrel
      · go_wp2
        go_round
        case rel => exact ⟨.inr rfl, rfl⟩
        case measure => simp [intOf]
      · go_wp2
        go_ret2
        exact ⟨rfl, rfl⟩
  · have h0 : (t == 0) = false := by simpa using h
    have h1 : (t != 0) = true := by simpa using h
    clear h
    go_enter Try.func28, Try.ntmps28
    go_wp2
    go_loop [9, 4, 6] (fun i c z => (i = .int .i64 0 ∧ c = .int .i64 0) ∨ (i = .int .i64 1 ∧ c = .int .i64 t)) (fun i _ _ => 1 - (intOf i).toNat)
    case atStart => exact .inl ⟨rfl, rfl⟩
    case round =>
      rcases hrel with ⟨rfl, rfl⟩ | ⟨rfl, rfl⟩
      · go_wp2
        go_round
        case rel => exact .inr ⟨rfl, rfl⟩
        case measure => simp [intOf]
      · go_wp2
        go_ret2
        exact ⟨rfl, rfl⟩

def comV (a b : Int) : Int × Bool := if a ≠ 0 ∧ b ≠ 0 ∧ b ≠ a then (0, false) else (if b ≠ 0 then b else a, true)

theorem com_cases (a b : Int) : (a = 0 ∧ b = 0 ∧ comV a b = (0, true)) ∨ (a = 0 ∧ ((b == 0) = false ∧ (b != 0) = true) ∧ comV a b = (b, true)) ∨ (((a == 0) = false ∧ (a != 0) = true) ∧ b = 0 ∧ comV a b = (a, true)) ∨
    (((a == 0) = false ∧ (a != 0) = true) ∧ b = a ∧ comV a b = (a, true)) ∨ (((a == 0) = false ∧ (a != 0) = true) ∧ ((b == 0) = false ∧ (b != 0) = true) ∧ (b != a) = true ∧ comV a b = (0, false)) := by
  by_cases ha : a = 0
  · subst ha
    by_cases hb : b = 0
    · subst hb; exact .inl ⟨rfl, rfl, rfl⟩
    · exact .inr (.inl ⟨rfl, ⟨by simpa using hb, by simpa using hb⟩, by simp [comV, hb]⟩)
  · by_cases hb : b = 0
    · subst hb; exact .inr (.inr (.inl ⟨⟨by simpa using ha, by simpa using ha⟩, rfl, by simp [comV]⟩))
    · by_cases hc : b = a
      · subst hc; exact .inr (.inr (.inr (.inl ⟨⟨by simpa using ha, by simpa using ha⟩, rfl, by simp [comV, ha]⟩)))
      · exact .inr (.inr (.inr (.inr ⟨⟨by simpa using ha, by simpa using ha⟩, ⟨by simpa using hb, by simpa using hb⟩, by simpa using hc, by simp [comV, ha, hb, hc]⟩)))

set_option maxHeartbeats 1000000 in
theorem common_two (b off cap : Nat) (f : Nat → Int) (w : World) (hA : IsI w b off 2 f) :
    Calls Try.prog 28 #[.slice (some ⟨b, off, none⟩) 2 cap] w fun e w' => e = .returned (.tuple #[.int .i64 (comV (f 0) (f 1)).1, .bool (comV (f 0) (f 1)).2]) ∧ w = w' := by
  have a0 := hA.c 0 (by decide)
  have a1 := hA.c 1 (by decide)
  generalize f 0 = s at *
  generalize f 1 = t at *
  clear hA
  rw [Nat.add_zero] at a0
  rcases com_cases s t with ⟨rfl, rfl, hv⟩ | ⟨rfl, ⟨h1, h2⟩, hv⟩ | ⟨⟨h1, h2⟩, rfl, hv⟩ | ⟨⟨h1, h2⟩, rfl, hv⟩ | ⟨⟨h1, h2⟩, ⟨h3, h4⟩, h5, hv⟩
  · rw [hv]
    clear hv
    go_enter Try.func28, Try.ntmps28
    go_wp2
    go_loop [9, 4, 6] (fun i c z => (i = .int .i64 0 ∧ c = .int .i64 0) ∨ (i = .int .i64 1 ∧ c = .int .i64 0) ∨ (i = .int .i64 2 ∧ c = .int .i64 0)) (fun i _ _ => 2 - (intOf i).toNat)
    case atStart => exact .inl ⟨rfl, rfl⟩
    case round =>
      rcases hrel with ⟨rfl, rfl⟩ | ⟨rfl, rfl⟩ | ⟨rfl, rfl⟩
      · go_wp2
        go_round
        case rel => exact .inr (.inl ⟨rfl, rfl⟩)
        case measure => simp [intOf]
      · go_wp2
        go_round
        case rel => exact .inr (.inr ⟨rfl, rfl⟩)
        case measure => simp [intOf]
      · go_wp2
        go_ret2
        exact ⟨rfl, rfl⟩
  · rw [hv]
    clear hv
    go_enter Try.func28, Try.ntmps28
    go_wp2
    go_loop [9, 4, 6] (fun i c z => (i = .int .i64 0 ∧ c = .int .i64 0) ∨ (i = .int .i64 1 ∧ c = .int .i64 0) ∨ (i = .int .i64 2 ∧ c = .int .i64 t)) (fun i _ _ => 2 - (intOf i).toNat)
    case atStart => exact .inl ⟨rfl, rfl⟩
    case round =>
      rcases hrel with ⟨rfl, rfl⟩ | ⟨rfl, rfl⟩ | ⟨rfl, rfl⟩
      · go_wp2
        go_round
        case rel => exact .inr (.inl ⟨rfl, rfl⟩)
        case measure => simp [intOf]
      · go_wp2
        go_round
        case rel => exact .inr (.inr ⟨rfl, rfl⟩)
        case measure => simp [intOf]
      · go_wp2
        go_ret2
        exact ⟨rfl, rfl⟩
  · rw [hv]
    clear hv
    go_enter Try.func28, Try.ntmps28
    go_wp2
    go_loop [9, 4, 6] (fun i c z => (i = .int .i64 0 ∧ c = .int .i64 0) ∨ (i = .int .i64 1 ∧ c = .int .i64 s) ∨ (i = .int .i64 2 ∧ c = .int .i64 s)) (fun i _ _ => 2 - (intOf i).toNat)
    case atStart => exact .inl ⟨rfl, rfl⟩
    case round =>
      rcases hrel with ⟨rfl, rfl⟩ | ⟨rfl, rfl⟩ | ⟨rfl, rfl⟩
      · go_wp2
        go_round
        case rel => exact .inr (.inl ⟨rfl, rfl⟩)
        case measure => simp [intOf]
      · go_wp2
        go_round
        case rel => exact .inr (.inr ⟨rfl, rfl⟩)
        case measure => simp [intOf]
      · go_wp2
        go_ret2
        exact ⟨rfl, rfl⟩
  · rw [hv]
    clear hv
    go_enter Try.func28, Try.ntmps28
    go_wp2
    go_loop [9, 4, 6] (fun i c z => (i = .int .i64 0 ∧ c = .int .i64 0) ∨ (i = .int .i64 1 ∧ c = .int .i64 t) ∨ (i = .int .i64 2 ∧ c = .int .i64 t)) (fun i _ _ => 2 - (intOf i).toNat)
    case atStart => exact .inl ⟨rfl, rfl⟩
    case round =>
      rcases hrel with ⟨rfl, rfl⟩ | ⟨rfl, rfl⟩ | ⟨rfl, rfl⟩
      · go_wp2
        go_round
        case rel => exact .inr (.inl ⟨rfl, rfl⟩)
        case measure => simp [intOf]
      · go_wp2
        go_round
        case rel => exact .inr (.inr ⟨rfl, rfl⟩)
        case measure => simp [intOf]
      · go_wp2
        go_ret2
        exact ⟨rfl, rfl⟩
  · rw [hv]
    clear hv
    go_enter Try.func28, Try.ntmps28
    go_wp2
    go_loop [9, 4, 6] (fun i c z => (i = .int .i64 0 ∧ c = .int .i64 0) ∨ (i = .int .i64 1 ∧ c = .int .i64 s)) (fun i _ _ => 2 - (intOf i).toNat)
    case atStart => exact .inl ⟨rfl, rfl⟩
    case round =>
      rcases hrel with ⟨rfl, rfl⟩ | ⟨rfl, rfl⟩
      · go_wp2
        go_round
        case rel => exact .inr ⟨rfl, rfl⟩
        case measure => simp [intOf]
      · go_wp2
        go_ret2
        exact ⟨rfl, rfl⟩

def tyV (op : Int) (m : Nat) (a b : Int) : Int :=
  if cntV op = 0 ∨ cntV op ≠ m then 0 else if a ≠ 0 ∧ b ≠ 0 ∧ b ≠ a then 0 else if (if b ≠ 0 then b else a) = 0 then aloV op else oneV op (if b ≠ 0 then b else a)

theorem cnt_le (op : Int) : cntV op = 0 ∨ (cntV op = 1 ∧ 13 ≤ op ∧ op ≤ 15) ∨ (cntV op = 2 ∧ 7 ≤ op ∧ op ≤ 12) := by
  unfold cntV
  by_cases h : 7 ≤ op ∧ op ≤ 12
  · rw [if_pos h]; exact .inr (.inr ⟨rfl, h⟩)
  · rw [if_neg h]
    by_cases g : 13 ≤ op ∧ op ≤ 15
    · rw [if_pos g]; exact .inr (.inl ⟨rfl, g⟩)
    · rw [if_neg g]; exact .inl rfl

theorem ty_bad {op : Int} {m : Nat} (a b : Int) (h : m = 0 ∨ cntV op ≠ m) : tyV op m a b = 0 := by
  unfold tyV
  rw [if_pos (by omega)]

theorem type_bad (op : Int) (A : Option Addr) (m cap : Nat) (hm : m ≤ maxLen) (h : m = 0 ∨ cntV op ≠ m) (w : World) :
    Calls Try.prog 15 #[.int .i64 op, .slice A m cap] w fun e w' => e = .returned (.tuple #[.int .i64 0, .bool false]) ∧ w = w' := by
  unfold maxLen at hm
  have ho := operands_any op
  generalize cntV op = c at *
  have HO := Lib.hid ho
  clear ho
  rcases h with rfl | h
  · go_enter Try.func15, Try.ntmps15
    go_wp2_with (go_at_call 19; refine (HO.out _).mono ?_; rintro e w' ⟨rfl, rfl⟩)
    go_ret2
    exact ⟨rfl, rfl⟩
  · by_cases h0 : m = 0
    · subst h0
      clear h
      go_enter Try.func15, Try.ntmps15
      go_wp2_with (go_at_call 19; refine (HO.out _).mono ?_; rintro e w' ⟨rfl, rfl⟩)
      go_ret2
      exact ⟨rfl, rfl⟩
    · have e0 : ((m : Int) == 0) = false := by simpa using h0
      have e0' : ¬ (m : Int) = 0 := by omega
      have e1 : ((m : Int) != (c : Int)) = true := by simp; omega
      have e1' : ¬ (m : Int) = (c : Int) := by omega
      have e2 : (m == 0) = false := by simpa using h0
      have e3 : (m != c) = true := by simp; omega
      clear h h0
      go_enter Try.func15, Try.ntmps15
      go_wp2_with (go_at_call 19; refine (HO.out _).mono ?_; rintro e w' ⟨rfl, rfl⟩)
      go_ret2
      exact ⟨rfl, rfl⟩

theorem type_good (op : Int) (b off m cap : Nat) (f : Nat → Int) (w : World) (hm : m = 1 ∨ m = 2) (hc : cntV op = m) (hA : IsI w b off m f) :
    Calls Try.prog 15 #[.int .i64 op, .slice (some ⟨b, off, none⟩) m cap] w fun e w' => e = .returned (.tuple #[.int .i64 (tyV op m (f 0) (f (m - 1))), .bool (tyV op m (f 0) (f (m - 1)) != 0)]) ∧ w = w' := by
  have hop : 7 ≤ op ∧ op ≤ 15 := by rcases cnt_le op with h | h | h <;> omega
  have ho := operands_any op
  have hal := alone_any op
  have han := fun t => answer_any op t hop
  rw [hc] at ho
  have hcom : Calls Try.prog 28 #[.slice (some ⟨b, off, none⟩) m cap] w fun e w' => e = .returned (.tuple #[.int .i64 (comV (f 0) (f (m - 1))).1, .bool (comV (f 0) (f (m - 1))).2]) ∧ w = w' := by
    rcases hm with rfl | rfl
    · have h := common_one b off cap f w hA
      have e : comV (f 0) (f (1 - 1)) = (f 0, true) := by
        show comV (f 0) (f 0) = _
        unfold comV; rw [if_neg (by simp)]; by_cases z : f 0 = 0 <;> simp [z]
      rw [e]; exact h
    · exact common_two b off cap f w hA
  have hty : ((comV (f 0) (f (m - 1))).2 = false ∧ tyV op m (f 0) (f (m - 1)) = 0) ∨ ((comV (f 0) (f (m - 1))).2 = true ∧ ((comV (f 0) (f (m - 1))).1 = 0 ∧ tyV op m (f 0) (f (m - 1)) = aloV op ∨ ((comV (f 0) (f (m - 1))).1 == 0) = false ∧ tyV op m (f 0) (f (m - 1)) = oneV op (comV (f 0) (f (m - 1))).1)) := by
    unfold tyV
    rw [if_neg (show ¬ (cntV op = 0 ∨ cntV op ≠ m) by omega)]
    unfold comV
    by_cases z : f 0 ≠ 0 ∧ f (m - 1) ≠ 0 ∧ f (m - 1) ≠ f 0
    · rw [if_pos z, if_pos z]; exact .inl ⟨rfl, rfl⟩
    · rw [if_neg z, if_neg z]
      right
      refine ⟨rfl, ?_⟩
      by_cases y : (if f (m - 1) ≠ 0 then f (m - 1) else f 0) = 0
      · left; rw [if_pos y]; exact ⟨y, rfl⟩
      · right; rw [if_neg y]; exact ⟨by simpa using y, rfl⟩
  generalize tyV op m (f 0) (f (m - 1)) = T at *
  generalize comV (f 0) (f (m - 1)) = C at *
  obtain ⟨c1, c2⟩ := C
  simp only at hty hcom
  have HC := Lib.hid hcom
  have HO := Lib.hid ho
  have HAL := Lib.hid hal
  have HAN := Lib.hid han
  clear ho hal han hA hcom hop hc
  rcases hty with ⟨rfl, rfl⟩ | ⟨rfl, ⟨rfl, rfl⟩ | ⟨h0, rfl⟩⟩ <;> rcases hm with rfl | rfl
  all_goals
    go_enter Try.func15, Try.ntmps15
    go_wp2_with (first
      | (go_at_call 19; refine (HO.out _).mono ?_; rintro e w' ⟨rfl, rfl⟩)
      | (go_at_call 28; refine HC.out.mono ?_; rintro e w' ⟨rfl, rfl⟩)
      | (go_at_call 29; refine (HAL.out _).mono ?_; rintro e w' ⟨rfl, rfl⟩)
      | (go_at_call 30; refine (HAN.out _ _).mono ?_; rintro e w' ⟨rfl, rfl⟩))
    go_ret2
    exact ⟨rfl, rfl⟩

end Go.Proofs.Ytceingfjdkpolaa
