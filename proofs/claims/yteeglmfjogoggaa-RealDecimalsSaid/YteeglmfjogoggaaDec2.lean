/-
  The document's answer on decimal numbers over the translation: by long division, it is the rounded quotient.
  Conditions: as each lemma says.
-/
import Derived.Test.YteeglmfjogoggaaDec1
import Derived.Test.YteeglmfjogoggaaWhole1
namespace Go.Proofs.Yteeglmfjogoggaa
open Go.RowKit
set_option linter.unusedVariables false

/-- i binary digits of a quotient are found: q, and u is what is left -/
def Inv (u0 d i q u : Nat) : Prop := u0 * 2 ^ i = 2 * q * d + u ∧ u < 2 * d ∧ q < 2 ^ i ∧ (i = 0 ∨ u % 2 = 0)

theorem inv_start {u0 d : Nat} (h : u0 < 2 * d) : Inv u0 d 0 0 u0 := ⟨by simp, h, by decide, .inl rfl⟩

theorem inv_ge {u0 d i q u : Nat} (h : Inv u0 d i q u) (c : d ≤ u) : Inv u0 d (i + 1) (2 * q + 1) (2 * (u - d)) := by
  obtain ⟨h1, h2, h3, h4⟩ := h
  refine ⟨?_, by omega, by rw [Nat.pow_succ]; omega, .inr (by omega)⟩
  rw [Nat.pow_succ, ← Nat.mul_assoc, h1]
  have : 2 * (2 * q + 1) * d = 2 * (2 * q * d) + 2 * d := by
    rw [Nat.mul_add, Nat.add_mul, ← Nat.mul_assoc 2 (2 * q) d]
  rw [this]
  generalize 2 * q * d = z at *
  omega

theorem inv_lt {u0 d i q u : Nat} (h : Inv u0 d i q u) (c : u < d) : Inv u0 d (i + 1) (2 * q) (2 * u) := by
  obtain ⟨h1, h2, h3, h4⟩ := h
  refine ⟨?_, by omega, by rw [Nat.pow_succ]; omega, .inr (by omega)⟩
  rw [Nat.pow_succ, ← Nat.mul_assoc, h1]
  have : 2 * (2 * q) * d = 2 * (2 * q * d) := by rw [← Nat.mul_assoc 2 (2 * q) d]
  rw [this]
  generalize 2 * q * d = z at *
  omega

theorem inv_end {u0 d q u : Nat} (h : Inv u0 d 53 q u) : roundQ (u0 * 4503599627370496) d = q + (if d < u ∨ (d = u ∧ q % 2 = 1) then 1 else 0) := by
  obtain ⟨h1, h2, h3, h4⟩ := h
  have hu : u = 2 * (u / 2) := by omega
  have e : u0 * 4503599627370496 = q * d + u / 2 := by
    have e53 : u0 * 2 ^ 53 = 2 * (u0 * 4503599627370496) := by
      rw [show (2 : Nat) ^ 53 = 4503599627370496 * 2 from rfl, ← Nat.mul_assoc, Nat.mul_comm _ 2]
    rw [e53, Nat.mul_assoc 2 q d] at h1
    obtain ⟨z, hz⟩ : ∃ z, z = u0 * 4503599627370496 := ⟨_, rfl⟩
    obtain ⟨y, hy⟩ : ∃ y, y = q * d := ⟨_, rfl⟩
    rw [← hz, ← hy] at h1
    rw [← hz, ← hy]
    omega
  rw [roundQ_of e (by omega), ← hu]

/-- the word that the digits make -/
theorem pow_small {b x : Nat} (h : 2 ^ b ≤ x) (hx : x < 4503599627370496) : b < 52 := by
  have : 2 ^ b < 2 ^ 52 := Nat.lt_of_le_of_lt h hx
  exact (Nat.pow_lt_pow_iff_right (by decide : 1 < 2)).1 this

theorem dec_word {E q : Nat} (hE : 900 ≤ E) (hE2 : E ≤ 1100) (hq : q ≤ 9007199254740992) : ROf (some (E * 4503599627370496 + q)) = ((E * 4503599627370496 + q : Nat) : Int) := by
  show RBits _ = _
  have h1 : E * 4503599627370496 + q < 9218868437227405312 := by omega
  have hr : rg (E * 4503599627370496 + q) = E * 4503599627370496 + q := by unfold rg; omega
  have hn : rnan (E * 4503599627370496 + q) = false := by
    rw [rnan_iff, hr]
    exact decide_eq_false (by unfold INF; omega)
  unfold RBits
  rw [hn, if_neg (by decide)]
  unfold wrap64
  omega

set_option maxHeartbeats 2000000 in
set_option maxRecDepth 100000 in
theorem refdec_pos (m s : Nat) (h0 : 0 < m) (h1 : m ≤ 999999999999999) (h3 : s ≤ 15) (d0 : Nat) (hd0 : 1 ≤ d0) (hd1 : d0 ≤ 1000000000000000) (hpow : ∀ w, Calls Try.prog 32 #[.int .i64 s] w fun e w' => e = .returned (.int .i64 (d0 : Int)) ∧ w = w')
    (T : Int) (hT : ∀ al be : Nat, al ≤ 60 → be ≤ 60 → d0 * 2 ^ be ≤ m * 2 ^ al → m * 2 ^ al < 2 * (d0 * 2 ^ be) → ((be + 1022 - al) * 4503599627370496 + roundQ (m * 2 ^ al * 4503599627370496) (d0 * 2 ^ be) : Nat) = T) (w : World) :
    Calls Try.prog 31 #[.int .i64 m, .int .i64 s] w fun e w' => e = .returned (.tuple #[.int .i64 T, .int .i64 0]) ∧ w = w' := by
  have HP := Lib.hid hpow
  have HT := Lib.hid hT
  clear hpow hT
  have t1 : ¬ (m : Int) < 0 := by omega
  have t2 : ¬ (999999999999999 : Int) < (m : Int) := by omega
  have t3 : ¬ (s : Int) < 0 := by omega
  have t4 : ¬ (15 : Int) < (s : Int) := by omega
  have t5 : ((m : Int) == 0) = false := by simp; omega
  go_enter Try.func31, Try.ntmps31
  go_wp2_with (go_at_call 32; refine (HP.out _).mono ?_; rintro e w' ⟨rfl, rfl⟩)
  go_loop [6, 8] (fun d e => ∃ be D : Nat, be ≤ 52 ∧ e = .int .i64 be ∧ d = .int .u64 D ∧ Hid (D = d0 * 2 ^ be) ∧ 1 ≤ D ∧ D ≤ 1000000000000000) (fun d _ => m - (intOf d).toNat)
  case atStart => exact ⟨0, d0, by omega, rfl, rfl, Lib.hid (by simp), hd0, hd1⟩
  case round =>
    obtain ⟨be, D, hbe, rfl, rfl, HD, hD1, hD2⟩ := hrel
    by_cases hc : D * 2 ≤ m
    · have hcc : (D : Int) * 2 ≤ (m : Int) := by omega
      have HD2 : Hid (D * 2 = d0 * 2 ^ (be + 1)) := Lib.hid (by rw [HD.out, Nat.pow_succ, Nat.mul_assoc])
      have hb2 : be + 1 ≤ 52 := by
        have h5 : 2 ^ (be + 1) ≤ D * 2 := by rw [HD2.out]; exact Nat.le_mul_of_pos_left _ hd0
        have := pow_small h5 (by omega)
        omega
      go_wp2
      go_round
      case rel => exact ⟨be + 1, D * 2, hb2, by go_num, by go_num, HD2, by omega, by omega⟩
      case measure => simp [intOf]; omega
    · have hcc : ¬ (D : Int) * 2 ≤ (m : Int) := by omega
      go_wp2
      go_loop [7, 8] (fun u e => ∃ al U : Nat, al ≤ 52 ∧ u = .int .u64 U ∧ e = .int .i64 ((be : Int) - (al : Int)) ∧ Hid (U = m * 2 ^ al) ∧ 1 ≤ U ∧ U < 2 * D) (fun u _ => D - (intOf u).toNat)
      case atStart => exact ⟨0, m, by omega, rfl, by first | rfl | simp, Lib.hid (by simp), by omega, by omega⟩
      case round =>
        obtain ⟨al, U, hal, rfl, rfl, HU, hU1, hU2⟩ := hrel
        by_cases hd : U < D
        · have hdd : (U : Int) < (D : Int) := by omega
          have HU2 : Hid (U * 2 = m * 2 ^ (al + 1)) := Lib.hid (by rw [HU.out, Nat.pow_succ, Nat.mul_assoc])
          have ha2 : al + 1 ≤ 52 := by
            have h5 : 2 ^ (al + 1) ≤ U * 2 := by rw [HU2.out]; exact Nat.le_mul_of_pos_left _ h0
            have := pow_small h5 (by omega)
            omega
          go_wp2
          go_round
          case rel => exact ⟨al + 1, U * 2, ha2, by go_num, by first | go_num | (congr 1; omega), HU2, by omega, by omega⟩
          case measure => simp [intOf]; omega
        · have hdd : ¬ (U : Int) < (D : Int) := by omega
          go_wp2
          go_loop [7, 9, 10] (fun u q i => ∃ k Q R : Nat, k ≤ 53 ∧ i = .int .i64 k ∧ q = .int .u64 Q ∧ u = .int .u64 R ∧ Hid (Inv U D k Q R) ∧ Q < 9007199254740992 ∧ R < 2 * D) (fun _ _ i => 53 - (intOf i).toNat)
          case atStart => exact ⟨0, 0, U, by omega, rfl, rfl, rfl, Lib.hid (inv_start hU2), by omega, hU2⟩
          case round =>
            obtain ⟨k, Q, R, hk, rfl, rfl, rfl, HI, hQ, hR⟩ := hrel
            by_cases hlt : k < 53
            · have hp : 2 ^ (k + 1) ≤ 9007199254740992 := Nat.pow_le_pow_right (n := 2) (by decide) (show k + 1 ≤ 53 by omega)
              by_cases hg : D ≤ R
              · have hgg : (D : Int) ≤ (R : Int) := by omega
                have HI2 := Lib.hid (inv_ge HI.out hg)
                have hq2 := HI2.out.2.2.1
                have hr2 := HI2.out.2.1
                have hq3 : 2 * Q + 1 < 9007199254740992 := by omega
                clear hq2 hp
                go_wp2
                go_round
                case rel => exact ⟨k + 1, 2 * Q + 1, 2 * (R - D), by omega, by go_num, by first | go_num | (congr 1; omega), by first | go_num | (congr 1; omega), HI2, hq3, hr2⟩
                case measure => simp [intOf]; omega
              · have hgg : ¬ (D : Int) ≤ (R : Int) := by omega
                have HI2 := Lib.hid (inv_lt HI.out (by omega))
                have hq2 := HI2.out.2.2.1
                have hr2 := HI2.out.2.1
                have hq3 : 2 * Q < 9007199254740992 := by omega
                clear hq2 hp
                go_wp2
                go_round
                case rel => exact ⟨k + 1, 2 * Q, 2 * R, by omega, by go_num, by first | go_num | (congr 1; omega), by first | go_num | (congr 1; omega), HI2, hq3, hr2⟩
                case measure => simp [intOf]; omega
            · have hk53 : k = 53 := by omega
              have hinv := HI.out
              rw [hk53] at hinv
              have hend := inv_end hinv
              have hfin := HT.out al be (by omega) (by omega) (by rw [← HD.out, ← HU.out]; omega) (by rw [← HD.out, ← HU.out]; omega)
              rw [← HD.out, ← HU.out, hend] at hfin
              have hb4 : bits .and .u64 (Q : Int) 1 = ((Q % 2 : Nat) : Int) := by
                have := bits_and_u64_nat Q 1 (by omega) (by decide)
                rw [show ((1 : Nat) : Int) = 1 from rfl] at this
                rw [this, Nat.and_one_is_mod]
              have hk2 : ¬ (k : Int) < 53 := by omega
              have hE1 : (0 : Int) ≤ (be : Int) - (al : Int) + 1022 := by omega
              have hE2 : (be : Int) - (al : Int) + 1022 ≤ 1100 := by omega
              have hq2 : Q % 2 = 0 ∨ Q % 2 = 1 := by omega
              generalize Q % 2 = b at *
              clear hk53 hinv hend
              have TT : (D < R) ∨ (R = D ∧ b = 1) ∨ (R = D ∧ b = 0) ∨ (R < D) := by omega
              rcases TT with g | ⟨g, gb⟩ | ⟨g, gb⟩ | g
              · rw [if_pos (by omega)] at hfin
                have HF := Lib.hid hfin
                clear hfin
                have g' : (D : Int) < (R : Int) := by omega
                go_wp2
                go_ret2
                exact ⟨ret_i2 (by rw [← HF.out]; first | omega | (simp only [IntKind.wrap_u64]; omega) | (simp only [IntKind.wrap_u64, wrap64]; omega) | (unfold wrap64; omega)) rfl, rfl⟩
              · rw [if_pos (by omega)] at hfin
                have HF := Lib.hid hfin
                clear hfin
                subst g gb
                go_wp2
                go_ret2
                exact ⟨ret_i2 (by rw [← HF.out]; first | omega | (simp only [IntKind.wrap_u64]; omega) | (simp only [IntKind.wrap_u64, wrap64]; omega) | (unfold wrap64; omega)) rfl, rfl⟩
              · rw [if_neg (by omega)] at hfin
                have HF := Lib.hid hfin
                clear hfin
                subst g gb
                go_wp2
                go_ret2
                exact ⟨ret_i2 (by rw [← HF.out]; first | omega | (simp only [IntKind.wrap_u64]; omega) | (simp only [IntKind.wrap_u64, wrap64]; omega) | (unfold wrap64; omega)) rfl, rfl⟩
              · rw [if_neg (by omega)] at hfin
                have HF := Lib.hid hfin
                clear hfin
                have g' : ¬ (D : Int) < (R : Int) := by omega
                have g2 : ((R : Int) == (D : Int)) = false := by simp; omega
                go_wp2
                go_ret2
                exact ⟨ret_i2 (by rw [← HF.out]; first | omega | (simp only [IntKind.wrap_u64]; omega) | (simp only [IntKind.wrap_u64, wrap64]; omega) | (unfold wrap64; omega)) rfl, rfl⟩

end Go.Proofs.Yteeglmfjogoggaa
