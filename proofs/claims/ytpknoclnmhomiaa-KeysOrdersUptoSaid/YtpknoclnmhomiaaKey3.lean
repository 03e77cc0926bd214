/-
  Contracts over the translation: a number out of a key's bytes, a text out of a key's bytes (haspref05's number, text).
  Conditions: the bytes lie in memory.
-/
import Derived.Test.YtpknoclnmhomiaaByt2
import Derived.Test.YtpknoclnmhomiaaKey2
import Derived.Test.YtpknoclnmhomiaaRef2
namespace Go.Proofs.Ytpknoclnmhomiaa
open Go.RowKit Go.Joins Go.ChangeShapes Go.WideShapes
set_option linter.unusedVariables false

/-- the number that bytes make, the greatest first -/
def numU (l : List Nat) : Nat := l.foldl (fun u c => u * 256 + c) 0
theorem numU_snoc (l : List Nat) (c : Nat) : numU (l ++ [c]) = numU l * 256 + c := by unfold numU; rw [List.foldl_append]; rfl
theorem numU_lt : ∀ (n : Nat) (l : List Nat), (∀ x ∈ l, x < 256) → l.length = n → numU l < 256 ^ n
  | 0, l, _, h => by rw [List.length_eq_zero_iff.1 h]; decide
  | n + 1, l, hl, h => by
    have hd : l = l.take n ++ [l[n]'(by omega)] := by
      have := List.take_add_one (l := l) (i := n)
      rw [List.take_of_length_le (by omega), List.getElem?_eq_getElem (by omega)] at this
      exact this
    have h1 := numU_lt n (l.take n) (fun x hx => hl x (List.mem_of_mem_take hx)) (by rw [List.length_take]; omega)
    have h2 := hl (l[n]'(by omega)) (List.getElem_mem _)
    rw [hd, numU_snoc, Nat.pow_succ]
    omega
/-- the real that a number in the order is -/
def realN (u : Nat) : Int := if u < 9223372036854775808 then -1 - (u : Int) else (u : Int) - 9223372036854775808
/-- what a value's bytes say, by its kind: a number, an error -/
def numK (kind : Int) (u : Nat) : Int × Int :=
  if kind = 1 then (if 1 < u then (0, 2) else (u, 0)) else if kind = 2 then ((u : Int) - 9223372036854775808, 0) else
  if realN u = -9223372036854775808 ∨ realN u ≠ PCanon (realN u) then (0, 2) else (realN u, 0)

set_option maxHeartbeats 2000000 in
theorem number_any (kind : Int) (hkind : kind = 1 ∨ kind = 2 ∨ kind = 3) (b off cap : Nat) (l : List Nat) (h1 : 0 < l.length) (h8 : l.length ≤ 8) (w : World) (hA : IsB w b off l) :
    Calls Try.prog 30 #[.int .i64 kind, .slice (some ⟨b, off, none⟩) l.length cap] w fun e w' => e = .returned (.tuple #[.int .i64 (numK kind (numU l)).1, .int .i64 (numK kind (numU l)).2]) ∧ w = w' := by
  have HB := Lib.hid hA
  have HC := Lib.hid refcanon_any
  have hlt := numU_lt l.length l hA.lt rfl
  have hp : (256 : Nat) ^ l.length ≤ 18446744073709551616 := Nat.le_trans (Nat.pow_le_pow_right (by decide) h8) (by decide)
  obtain ⟨m, em⟩ : ∃ m, l.length = m := ⟨_, rfl⟩
  obtain ⟨u, eu⟩ : ∃ u, numU l = u := ⟨_, rfl⟩
  have hu : u < 18446744073709551616 := by omega
  have EM := Lib.hid em
  have EU := Lib.hid eu
  have HU := Lib.hid hu
  rw [em] at h8 ⊢
  rw [eu]
  have hres : ∃ n e, numK kind u = (n, e) := ⟨_, _, rfl⟩
  obtain ⟨rn, re, hres⟩ := hres
  rw [hres]
  have HRES := Lib.hid hres
  clear hA hlt hp em eu hu hres h1
  go_enter Try.func30, Try.ntmps30
  go_wp2
  go_loopw [6, 7] (fun x i wr => ∃ k : Nat, k ≤ m ∧ i = .int .i64 k ∧ x = .int .u64 (numU (l.take k) : Nat) ∧ w = wr) (fun _ i _ => m - (intOf i).toNat)
  case atStart => exact ⟨0, Nat.zero_le _, rfl, rfl, rfl⟩
  case round =>
    obtain ⟨k, hk, rfl, rfl, rfl⟩ := hrel
    by_cases c : k < m
    · have c1 : (k : Int) < (m : Int) := by omega
      have hz : l[k]? = some (l[k]'(by rw [EM.out]; omega)) := List.getElem?_eq_getElem _
      generalize l[k]'(by rw [EM.out]; omega) = z at *
      have a0 := HB.out.c k z hz
      have hz8 := HB.out.lt z (List.mem_of_getElem? hz)
      have hv := numU_lt k (l.take k) (fun x hx => HB.out.lt x (List.mem_of_mem_take hx)) (by rw [List.length_take, EM.out]; omega)
      have hp : (256 : Nat) ^ k ≤ 72057594037927936 := Nat.le_trans (Nat.pow_le_pow_right (by decide) (show k ≤ 7 by omega)) (by decide)
      have hs : numU (l.take (k + 1)) = numU (l.take k) * 256 + z := by rw [List.take_add_one, hz]; exact numU_snoc _ _
      generalize numU (l.take k) = v at *
      have e1 : IntKind.u64.wrap ((v : Int) * 256) = (v : Int) * 256 := by rw [IntKind.wrap_u64]; omega
      have e2 : IntKind.u64.wrap ((v : Int) * 256 + (z : Int)) = (v : Int) * 256 + (z : Int) := by rw [IntKind.wrap_u64]; omega
      have e3 : IntKind.u64.wrap (z : Int) = (z : Int) := by rw [IntKind.wrap_u64]; omega
      have HSN := Lib.hid hs
      clear hs hp hz
      go_wp2
      go_roundw
      case rel => exact ⟨k + 1, by omega, by go_num, by rw [HSN.out]; first | rfl | (simp; done) | (congr 1; simp; omega) | (congr 1; omega), by trivial⟩
      case measure => first | (simp [intOf]; done) | (simp [intOf]; omega)
    · obtain rfl : k = m := by omega
      rw [List.take_of_length_le (by rw [EM.out]; exact Nat.le_refl _), EU.out]
      have hu := HU.out
      have hr := HRES.out
      rcases hkind with rfl | rfl | rfl
      · unfold numK at hr
        rw [if_pos rfl] at hr
        by_cases q : 1 < u
        · rw [if_pos q] at hr
          obtain ⟨rfl, rfl⟩ := Prod.mk.inj hr
          have q1 : (1 : Int) < (u : Int) := by omega
          clear hr
          go_wp2
          go_ret2
          exact ⟨rfl, rfl⟩
        · rw [if_neg q] at hr
          obtain ⟨rfl, rfl⟩ := Prod.mk.inj hr
          have q1 : decide ((1 : Int) < (u : Int)) = false := by simp; omega
          have q2 : IntKind.i64.wrap (u : Int) = (u : Int) := by rw [IntKind.wrap_i64]; omega
          have q3 : u ≤ 1 := by omega
          clear hr
          go_wp2
          go_ret2
          exact ⟨rfl, rfl⟩
      · unfold numK at hr
        rw [if_neg (by decide), if_pos rfl] at hr
        obtain ⟨rfl, rfl⟩ := Prod.mk.inj hr
        have q1 : IntKind.i64.wrap (IntKind.u64.wrap ((u : Int) + 9223372036854775808)) = (u : Int) - 9223372036854775808 := by rw [IntKind.wrap_i64, IntKind.wrap_u64]; omega
        have q2 : IntKind.i64.wrap ((u : Int) + 9223372036854775808) = (u : Int) - 9223372036854775808 := by rw [IntKind.wrap_i64]; omega
        clear hr
        go_wp2
        go_ret2
        exact ⟨ret_i2 (by first | rfl | exact q1 | exact q2 | (unfold wrap64; omega)) rfl, rfl⟩
      · unfold numK at hr
        rw [if_neg (by decide), if_neg (by decide)] at hr
        have q1 : IntKind.i64.wrap (IntKind.u64.wrap ((u : Int) + 9223372036854775808)) = (u : Int) - 9223372036854775808 := by rw [IntKind.wrap_i64, IntKind.wrap_u64]; omega
        have q2 : IntKind.i64.wrap ((u : Int) + 9223372036854775808) = (u : Int) - 9223372036854775808 := by rw [IntKind.wrap_i64]; omega
        have q1' : wrap64 (IntKind.u64.wrap ((u : Int) + 9223372036854775808)) = (u : Int) - 9223372036854775808 := by rw [IntKind.wrap_u64]; unfold wrap64; omega
        by_cases c9 : u < 9223372036854775808
        · rw [show realN u = -1 - (u : Int) from if_pos c9] at hr
          have p1 : (u : Int) < 9223372036854775808 := by omega
          have p2 : IntKind.i64.wrap (u : Int) = (u : Int) := by rw [IntKind.wrap_i64]; omega
          have p3 : IntKind.i64.wrap (-1 - (u : Int)) = -1 - (u : Int) := by rw [IntKind.wrap_i64]; omega
          have p4 : wrap64 (u : Int) = (u : Int) := by unfold wrap64; omega
          have p5 : wrap64 (-1 - (u : Int)) = -1 - (u : Int) := by unfold wrap64; omega
          have hc2 := Lib.hid (HC.out (-1 - (u : Int)))
          by_cases z : (-1 - (u : Int) : Int) = -9223372036854775808
          · rw [if_pos (.inl z)] at hr
            obtain ⟨rfl, rfl⟩ := Prod.mk.inj hr
            have z1 : ((-1 - (u : Int) : Int) == -9223372036854775808) = true := by simpa using z
            clear hr z
            go_wp2_with (first | (go_at_call 44; refine (HC.out _ _).mono ?_; rintro x w1 ⟨rfl, rfl⟩))
            go_ret2
            exact ⟨rfl, rfl⟩
          · have z1 : ((-1 - (u : Int) : Int) == -9223372036854775808) = false := by simpa using z
            by_cases y : (-1 - (u : Int) : Int) = PCanon (-1 - (u : Int))
            · rw [if_neg (by rintro (h | h); exact z h; exact h y)] at hr
              obtain ⟨rfl, rfl⟩ := Prod.mk.inj hr
              have y1 : ((-1 - (u : Int) : Int) != PCanon (-1 - (u : Int))) = false := by simpa using y
              have HY := Lib.hid y
              generalize PCanon (-1 - (u : Int)) = pc at *
              clear hr z y
              go_wp2_with (first | (go_at_call 44; refine (hc2.out _).mono ?_; rintro x w1 ⟨rfl, rfl⟩))
              go_ret2
              exact ⟨rfl, rfl⟩
            · rw [if_pos (.inr y)] at hr
              obtain ⟨rfl, rfl⟩ := Prod.mk.inj hr
              have y1 : ((-1 - (u : Int) : Int) != PCanon (-1 - (u : Int))) = true := by simpa using y
              generalize PCanon (-1 - (u : Int)) = pc at *
              clear hr z
              go_wp2_with (first | (go_at_call 44; refine (hc2.out _).mono ?_; rintro x w1 ⟨rfl, rfl⟩))
              go_ret2
              exact ⟨rfl, rfl⟩
        · rw [show realN u = (u : Int) - 9223372036854775808 from if_neg c9] at hr
          have p1 : decide ((u : Int) < 9223372036854775808) = false := by simp; omega
          have p2 : (9223372036854775808 : Int) ≤ (u : Int) := by omega
          have hc2 := Lib.hid (HC.out ((u : Int) - 9223372036854775808))
          by_cases z : ((u : Int) - 9223372036854775808 : Int) = -9223372036854775808
          · rw [if_pos (.inl z)] at hr
            obtain ⟨rfl, rfl⟩ := Prod.mk.inj hr
            have z1 : (((u : Int) - 9223372036854775808 : Int) == -9223372036854775808) = true := by simpa using z
            clear hr z
            go_wp2_with (first | (go_at_call 44; refine (HC.out _ _).mono ?_; rintro x w1 ⟨rfl, rfl⟩))
            go_ret2
            exact ⟨rfl, rfl⟩
          · have z1 : (((u : Int) - 9223372036854775808 : Int) == -9223372036854775808) = false := by simpa using z
            by_cases y : ((u : Int) - 9223372036854775808 : Int) = PCanon ((u : Int) - 9223372036854775808)
            · rw [if_neg (by rintro (h | h); exact z h; exact h y)] at hr
              obtain ⟨rfl, rfl⟩ := Prod.mk.inj hr
              have y1 : (((u : Int) - 9223372036854775808 : Int) != PCanon ((u : Int) - 9223372036854775808)) = false := by simpa using y
              have HY := Lib.hid y
              generalize PCanon ((u : Int) - 9223372036854775808) = pc at *
              clear hr z y
              go_wp2_with (first | (go_at_call 44; refine (hc2.out _).mono ?_; rintro x w1 ⟨rfl, rfl⟩))
              go_ret2
              exact ⟨rfl, rfl⟩
            · rw [if_pos (.inr y)] at hr
              obtain ⟨rfl, rfl⟩ := Prod.mk.inj hr
              have y1 : (((u : Int) - 9223372036854775808 : Int) != PCanon ((u : Int) - 9223372036854775808)) = true := by simpa using y
              generalize PCanon ((u : Int) - 9223372036854775808) = pc at *
              clear hr z
              go_wp2_with (first | (go_at_call 44; refine (hc2.out _).mono ?_; rintro x w1 ⟨rfl, rfl⟩))
              go_ret2
              exact ⟨rfl, rfl⟩

end Go.Proofs.Ytpknoclnmhomiaa
