/-
  Plain mathematics, no program: the quotient of two whole numbers in binary64 is the quotient of the numbers, rounded to the nearest, ties to the even one.
  Conditions: as each lemma says.
-/
import Derived.Test.YteeglmfjogoggaaPlain1
namespace Go.Proofs.Yteeglmfjogoggaa
open Ieee

/-- a quotient rounded to the nearest whole number, ties to the even one -/
def roundQ (n d : Nat) : Nat := n / d + (if d < 2 * (n % d) ∨ (d = 2 * (n % d) ∧ n / d % 2 = 1) then 1 else 0)

theorem roundQ_of {n d q r : Nat} (h : n = q * d + r) (hr : r < d) : roundQ n d = q + (if d < 2 * r ∨ (d = 2 * r ∧ q % 2 = 1) then 1 else 0) := by
  have hd : 0 < d := by omega
  have e1 : n / d = q := by
    rw [h, Nat.mul_comm, Nat.mul_add_div hd, Nat.div_eq_of_lt hr, Nat.add_zero]
  have e2 : n % d = r := by rw [h, Nat.mul_comm, Nat.mul_add_mod, Nat.mod_eq_of_lt hr]
  unfold roundQ; rw [e1, e2]

/-- the same ratio, the same rounding -/
theorem roundQ_cross {n d n' d' : Nat} (hd : 0 < d) (hd' : 0 < d') (h : n * d' = n' * d) : roundQ n d = roundQ n' d' := by
  have e := Nat.div_add_mod n d
  have hr := Nat.mod_lt n hd
  generalize n / d = q at *
  generalize n % d = r at *
  have h1 : n' * d = (q * d') * d + r * d' := by
    rw [← h, ← e, Nat.add_mul, Nat.mul_assoc, Nat.mul_assoc, Nat.mul_comm d (q * d'), Nat.mul_assoc]
  have h2 : q * d' ≤ n' := by
    have : (q * d') * d ≤ n' * d := by omega
    exact Nat.le_of_mul_le_mul_right this hd
  obtain ⟨r', hr'⟩ : ∃ r', n' = q * d' + r' := ⟨n' - q * d', by omega⟩
  have h3 : r' * d = r * d' := by
    rw [hr', Nat.add_mul] at h1
    omega
  have h4 : r' < d' := by
    have : r' * d < d' * d := by
      rw [h3, Nat.mul_comm d' d]
      exact Nat.mul_lt_mul_of_pos_right hr hd'
    exact Nat.lt_of_mul_lt_mul_right this
  rw [roundQ_of (q := q) (r := r) (by rw [Nat.mul_comm]; exact e.symm) hr, roundQ_of hr' h4]
  have c1 : d < 2 * r ↔ d' < 2 * r' := by
    constructor
    · intro hh
      have : d * d' < (2 * r) * d' := Nat.mul_lt_mul_of_pos_right hh hd'
      rw [Nat.mul_assoc, ← h3, ← Nat.mul_assoc, Nat.mul_comm d d'] at this
      exact Nat.lt_of_mul_lt_mul_right this
    · intro hh
      have : d' * d < (2 * r') * d := Nat.mul_lt_mul_of_pos_right hh hd
      rw [Nat.mul_assoc, h3, ← Nat.mul_assoc, Nat.mul_comm d' d] at this
      exact Nat.lt_of_mul_lt_mul_right this
  have c2 : d = 2 * r ↔ d' = 2 * r' := by
    constructor
    · intro hh
      have : d * d' = (2 * r) * d' := by rw [← hh]
      rw [Nat.mul_assoc, ← h3, ← Nat.mul_assoc, Nat.mul_comm d d'] at this
      exact Nat.eq_of_mul_eq_mul_right hd this
    · intro hh
      have : d' * d = (2 * r') * d := by rw [← hh]
      rw [Nat.mul_assoc, h3, ← Nat.mul_assoc, Nat.mul_comm d' d] at this
      exact Nat.eq_of_mul_eq_mul_right hd' this
  simp only [c1, c2]

/-- a quotient to c digits more, and one that is 1 where anything is left over, rounds as the quotient itself -/
theorem sticky {n d c : Nat} (hd : 0 < d) (hc : 1 ≤ c) :
    (2 * (n * 2 ^ c / d) + (n * 2 ^ c % d != 0).toNat) / 2 ^ (c + 1) + (if 2 ^ (c + 1) < 2 * ((2 * (n * 2 ^ c / d) + (n * 2 ^ c % d != 0).toNat) % 2 ^ (c + 1)) ∨ (2 ^ (c + 1) = 2 * ((2 * (n * 2 ^ c / d) + (n * 2 ^ c % d != 0).toNat) % 2 ^ (c + 1)) ∧ (2 * (n * 2 ^ c / d) + (n * 2 ^ c % d != 0).toNat) / 2 ^ (c + 1) % 2 = 1) then 1 else 0) = roundQ n d := by
  have e := Nat.div_add_mod n d
  have hr := Nat.mod_lt n hd
  generalize n / d = q at *
  generalize n % d = r at *
  have hp : 0 < 2 ^ c := Nat.two_pow_pos c
  have hp1 : 2 ^ (c + 1) = 2 * 2 ^ c := by rw [Nat.pow_succ, Nat.mul_comm]
  obtain ⟨c', rfl⟩ : ∃ c', c = c' + 1 := ⟨c - 1, by omega⟩
  have hp2 : 2 ^ (c' + 1) = 2 * 2 ^ c' := by rw [Nat.pow_succ, Nat.mul_comm]
  have e2 := Nat.div_add_mod (r * 2 ^ (c' + 1)) d
  have hs := Nat.mod_lt (r * 2 ^ (c' + 1)) hd
  have ht : r * 2 ^ (c' + 1) / d < 2 ^ (c' + 1) := by
    apply Nat.div_lt_of_lt_mul
    exact Nat.mul_lt_mul_of_pos_right hr hp
  have hn : n * 2 ^ (c' + 1) = d * (q * 2 ^ (c' + 1)) + r * 2 ^ (c' + 1) := by
    rw [← e, Nat.add_mul, Nat.mul_assoc]
  have hQ : n * 2 ^ (c' + 1) / d = q * 2 ^ (c' + 1) + r * 2 ^ (c' + 1) / d := by rw [hn, Nat.mul_add_div hd]
  have hS : n * 2 ^ (c' + 1) % d = r * 2 ^ (c' + 1) % d := by rw [hn, Nat.mul_add_mod]
  rw [hQ, hS, roundQ_of (q := q) (r := r) (by rw [Nat.mul_comm]; exact e.symm) hr]
  have k1 : d < 2 * r → 2 ^ c' ≤ r * 2 ^ (c' + 1) / d ∧ (r * 2 ^ (c' + 1) / d = 2 ^ c' → r * 2 ^ (c' + 1) % d ≠ 0) := by
    intro hh
    have hlt : d * 2 ^ c' < r * 2 ^ (c' + 1) := by
      rw [hp2, ← Nat.mul_assoc, Nat.mul_comm r 2]
      exact Nat.mul_lt_mul_of_pos_right hh (Nat.two_pow_pos c')
    refine ⟨(Nat.le_div_iff_mul_le hd).2 (by rw [Nat.mul_comm]; omega), fun hq => ?_⟩
    rw [hq] at e2
    omega
  have k2 : d = 2 * r → r * 2 ^ (c' + 1) / d = 2 ^ c' ∧ r * 2 ^ (c' + 1) % d = 0 := by
    intro hh
    have heq : r * 2 ^ (c' + 1) = d * 2 ^ c' := by rw [hp2, hh, ← Nat.mul_assoc, Nat.mul_comm r 2]
    rw [heq]
    exact ⟨Nat.mul_div_cancel_left _ hd, Nat.mul_mod_right _ _⟩
  have k3 : 2 * r < d → r * 2 ^ (c' + 1) / d < 2 ^ c' := by
    intro hh
    apply Nat.div_lt_of_lt_mul
    rw [hp2, ← Nat.mul_assoc, Nat.mul_comm r 2]
    exact Nat.mul_lt_mul_of_pos_right hh (Nat.two_pow_pos c')
  generalize r * 2 ^ (c' + 1) / d = t at *
  generalize r * 2 ^ (c' + 1) % d = z at *
  obtain ⟨b, hb, hb1, hb2⟩ : ∃ b, (z != 0).toNat = b ∧ (z = 0 → b = 0) ∧ (z ≠ 0 → b = 1) := by
    refine ⟨_, rfl, fun h => by simp [h], fun h => ?_⟩
    have : (z != 0) = true := by simpa using h
    rw [this]; rfl
  rw [hb]
  have hble : b ≤ 1 := by by_cases z0 : z = 0; have := hb1 z0; omega; have := hb2 z0; omega
  have eq1 : 2 * (q * 2 ^ (c' + 1) + t) + b = (2 ^ (c' + 1 + 1)) * q + (2 * t + b) := by
    rw [hp1, Nat.mul_add, ← Nat.mul_assoc, Nat.mul_comm (2 * q), ← Nat.mul_assoc, Nat.mul_comm _ 2]
    omega
  have hlt2 : 2 * t + b < 2 ^ (c' + 1 + 1) := by omega
  rw [eq1, Nat.mul_add_div (by omega), Nat.mul_add_mod, Nat.div_eq_of_lt hlt2, Nat.mod_eq_of_lt hlt2, Nat.add_zero]
  congr 1
  rw [hp1, hp2]
  rcases Nat.lt_trichotomy d (2 * r) with g | g | g
  · obtain ⟨a1, a2⟩ := k1 g
    have w : 2 * (2 * 2 ^ c') < 2 * (2 * t + b) := by
      by_cases tt : t = 2 ^ c'
      · have := hb2 (a2 tt); omega
      · omega
    rw [if_pos (.inl w), if_pos (.inl g)]
  · obtain ⟨a1, a2⟩ := k2 g
    have b0 := hb1 a2
    have w2 : 2 * (2 * 2 ^ c') = 2 * (2 * t + b) := by omega
    by_cases o : q % 2 = 1
    · rw [if_pos (.inr ⟨w2, o⟩), if_pos (.inr ⟨g, o⟩)]
    · rw [if_neg (by omega), if_neg (by omega)]
  · have a1 := k3 g
    rw [if_neg (by omega), if_neg (by omega)]

theorem pow_le_of {d m x1 y1 x2 y2 : Nat} (a : d * 2 ^ x1 ≤ m * 2 ^ y1) (b : m * 2 ^ y2 < d * 2 ^ (x2 + 1)) : x1 + y2 ≤ x2 + y1 := by
  have a2 : d * 2 ^ (x1 + y2) ≤ m * 2 ^ (y1 + y2) := by
    rw [Nat.pow_add, Nat.pow_add, ← Nat.mul_assoc, ← Nat.mul_assoc]
    exact Nat.mul_le_mul_right _ a
  have b2 : m * 2 ^ (y1 + y2) < d * 2 ^ (x2 + 1 + y1) := by
    rw [Nat.add_comm y1, Nat.pow_add, Nat.pow_add 2 (x2 + 1), ← Nat.mul_assoc, ← Nat.mul_assoc]
    exact Nat.mul_lt_mul_of_pos_right b (Nat.two_pow_pos _)
  have c : d * 2 ^ (x1 + y2) < d * 2 ^ (x2 + 1 + y1) := Nat.lt_of_le_of_lt a2 b2
  have c2 : 2 ^ (x1 + y2) < 2 ^ (x2 + 1 + y1) := Nat.lt_of_mul_lt_mul_left c
  have := (Nat.pow_lt_pow_iff_right (by decide : 1 < 2)).1 c2
  omega

theorem whole_read {m k : Nat} (h1 : 2 ^ k ≤ m) (h2 : m < 2 ^ (k + 1)) (hk : k ≤ 52) : double.read (wholeRung m k) = .number false (m * 2 ^ (52 - k)) ((k : Int) - 52) := by
  have hs := whole_small h2 hk
  have hb := whole_big h1 hk
  have hr : wholeRung m k = (k + 1022) * 4503599627370496 + m * 2 ^ (52 - k) := by unfold wholeRung; rw [if_pos hk]
  have hE : E (wholeRung m k) = k + 1022 := by rw [hr]; unfold E; omega
  have hM : M (wholeRung m k) = m * 2 ^ (52 - k) := by rw [hr]; unfold M; rw [if_neg (by omega)]; omega
  have hsg : sg (wholeRung m k) = false := by rw [hr]; unfold sg; simp; omega
  have hrg : rg (wholeRung m k) = wholeRung m k := by rw [hr]; unfold rg; omega
  rw [read_num _ (by rw [hrg, hr]; unfold INF; omega), hrg, hsg, hE, hM, show (-1074 + ((k + 1022 : Nat) : Int)) = (k : Int) - 52 from by omega]

theorem sticky_div {n d c : Nat} : (2 * (n * 2 ^ c / d) + (n * 2 ^ c % d != 0).toNat) / 2 ^ (c + 1) = n / d := by
  have h : ∀ b : Bool, b.toNat < 2 := by intro b; cases b <;> decide
  have hb := h (n * 2 ^ c % d != 0)
  rw [Nat.pow_succ, Nat.mul_comm (2 ^ c) 2, ← Nat.div_div_eq_div_mul, Nat.mul_add_div (by decide), Nat.div_eq_of_lt hb, Nat.add_zero, Nat.div_div_eq_div_mul]
  exact Nat.mul_div_mul_right _ _ (Nat.two_pow_pos c)

theorem roundQ_le {n d : Nat} : roundQ n d ≤ n / d + 1 := by unfold roundQ; split <;> omega

theorem nearest_sticky {N B c : Nat} {place : Int} (hB : 0 < B) (hc : 1 ≤ c) (hc2 : c ≤ 10) (hlo : 4503599627370496 ≤ N / B) (hhi : N / B < 9007199254740992) (hp : -1074 ≤ place + c + 1) (hp2 : place ≤ 0) :
    double.nearest false (2 * (N * 2 ^ c / B) + (N * 2 ^ c % B != 0).toNat) place = (place + c + 1 + 1074).toNat * 4503599627370496 + roundQ N B := by
  have hq := sticky_div (n := N) (d := B) (c := c)
  have hst := sticky (n := N) hB hc
  have hle := roundQ_le (n := N) (d := B)
  generalize 2 * (N * 2 ^ c / B) + (N * 2 ^ c % B != 0).toNat = mag at *
  have hp : 0 < 2 ^ (c + 1) := Nat.two_pow_pos _
  have m1 : 4503599627370496 * 2 ^ (c + 1) ≤ mag := by rw [← hq] at hlo; exact (Nat.le_div_iff_mul_le hp).1 hlo
  have m2 : mag < 9007199254740992 * 2 ^ (c + 1) := by rw [← hq] at hhi; exact (Nat.div_lt_iff_lt_mul hp).1 hhi
  have hl : mag.log2 = 52 + (c + 1) := by
    refine log2_eq ?_ ?_
    · rw [Nat.pow_add]; exact m1
    · rw [show 52 + (c + 1) + 1 = 53 + (c + 1) from by omega, Nat.pow_add]; exact m2
  have hne : mag ≠ 0 := by
    have : 0 < 4503599627370496 * 2 ^ (c + 1) := Nat.mul_pos (by decide) hp
    omega
  have e1 : double.fractionBits = 52 := rfl
  have e2 : double.binade = 4503599627370496 := by decide
  have e3 : double.infRung = 9218868437227405312 := by decide
  have e4 : double.leastPlace = -1074 := by decide
  unfold Format.nearest
  rw [if_neg hne]
  dsimp only
  rw [e1, e2, e3, e4, hl]
  have x1 : max (place + ((52 + (c + 1) : Nat) : Int) - (52 : Nat)) (-1074) = place + c + 1 := by omega
  rw [x1]
  have x2 : (place - (place + (c : Int) + 1)).toNat = 0 := by omega
  have x3 : (place + (c : Int) + 1 - place).toNat = c + 1 := by omega
  have x4 : (place + (c : Int) + 1 - -1074).toNat = (place + c + 1 + 1074).toNat := by omega
  rw [x2, x3, x4, Nat.shiftLeft_zero, cut_even _ _ _ (by omega), hst, word_sr]
  rw [Nat.min_eq_left (by omega)]
  simp

theorem div_whole {m d k j al be : Nat} (m1 : 2 ^ k ≤ m) (m2 : m < 2 ^ (k + 1)) (hk : k ≤ 52) (d1 : 2 ^ j ≤ d) (d2 : d < 2 ^ (j + 1)) (hj : j ≤ 52) (h1 : d * 2 ^ be ≤ m * 2 ^ al) (h2 : m * 2 ^ al < d * 2 ^ (be + 1)) :
    double.div (wholeRung m k) (wholeRung d j) = some ((be + 1022 - al) * 4503599627370496 + roundQ (m * 2 ^ al * 4503599627370496) (d * 2 ^ be)) := by
  have a1 := whole_big m1 hk
  have a2 := whole_small m2 hk
  have b1 := whole_big d1 hj
  have b2 := whole_small d2 hj
  have hd0 : 0 < d := Nat.lt_of_lt_of_le (Nat.two_pow_pos j) d1
  unfold Format.div Datum.quotient
  rw [whole_read m1 m2 hk, whole_read d1 d2 hj]
  dsimp only
  have lA : (m * 2 ^ (52 - k)).log2 = 52 := log2_eq (by omega) (by omega)
  have lB : (d * 2 ^ (52 - j)).log2 = 52 := log2_eq (by omega) (by omega)
  have hf : double.fractionBits = 52 := rfl
  rw [if_neg (by omega), lA, lB, hf, show 52 + 2 + 52 - 52 = 54 from rfl, Nat.shiftLeft_eq, Option.map_some]
  unfold Format.write
  dsimp only
  rw [show (false ^^ false) = false from rfl]
  -- a: the digit by which the first may be less than the second
  obtain ⟨a, ha, g1, g2⟩ : ∃ a, a ≤ 1 ∧ d * 2 ^ (52 - j) ≤ m * 2 ^ (52 - k) * 2 ^ a ∧ m * 2 ^ (52 - k) * 2 ^ a < 2 * (d * 2 ^ (52 - j)) := by
    by_cases c : d * 2 ^ (52 - j) ≤ m * 2 ^ (52 - k)
    · exact ⟨0, by omega, by omega, by omega⟩
    · exact ⟨1, by omega, by omega, by omega⟩
  have hB : 0 < d * 2 ^ (52 - j) := by omega
  have e54 : m * 2 ^ (52 - k) * 2 ^ 54 = (m * 2 ^ (52 - k) * 2 ^ a * 4503599627370496) * 2 ^ (2 - a) := by
    rw [show (4503599627370496 : Nat) = 2 ^ 52 from rfl, Nat.mul_assoc (m * 2 ^ (52 - k)), Nat.mul_assoc (m * 2 ^ (52 - k)), ← Nat.pow_add, ← Nat.pow_add, show a + 52 + (2 - a) = 54 from by omega]
  rw [e54]
  have g3 : d * 2 ^ (52 - j) ≤ m * 2 ^ (52 - k + a) := by rw [Nat.pow_add, ← Nat.mul_assoc]; exact g1
  have g4 : m * 2 ^ (52 - k + a) < d * 2 ^ (52 - j + 1) := by rw [Nat.pow_add, ← Nat.mul_assoc, Nat.pow_succ, ← Nat.mul_assoc]; omega
  have u1 := pow_le_of h1 g4
  have u2 := pow_le_of g3 h2
  have hlo : 4503599627370496 ≤ m * 2 ^ (52 - k) * 2 ^ a * 4503599627370496 / (d * 2 ^ (52 - j)) := by
    rw [Nat.le_div_iff_mul_le hB, Nat.mul_comm]
    exact Nat.mul_le_mul_right _ g1
  have hhi : m * 2 ^ (52 - k) * 2 ^ a * 4503599627370496 / (d * 2 ^ (52 - j)) < 9007199254740992 := by
    rw [Nat.div_lt_iff_lt_mul hB]
    have := Nat.mul_lt_mul_of_pos_right g2 (show 0 < 4503599627370496 by decide)
    rw [Nat.mul_right_comm 2 (d * 2 ^ (52 - j)) 4503599627370496, show 2 * 4503599627370496 = 9007199254740992 from rfl] at this
    exact this
  have hr : roundQ (m * 2 ^ (52 - k) * 2 ^ a * 4503599627370496) (d * 2 ^ (52 - j)) = roundQ (m * 2 ^ al * 4503599627370496) (d * 2 ^ be) := by
    refine roundQ_cross hB (Nat.mul_pos hd0 (Nat.two_pow_pos _)) ?_
    have e1 : m * 2 ^ (52 - k) * 2 ^ a * 4503599627370496 * (d * 2 ^ be) = (m * d * 4503599627370496) * 2 ^ (52 - k + a + be) := by
      rw [Nat.pow_add, Nat.pow_add]
      ac_rfl
    have e2 : m * 2 ^ al * 4503599627370496 * (d * 2 ^ (52 - j)) = (m * d * 4503599627370496) * 2 ^ (al + (52 - j)) := by
      rw [Nat.pow_add]
      ac_rfl
    rw [e1, e2, show 52 - k + a + be = al + (52 - j) from by omega]
  have hp : ((k : Int) - 52 - ((j : Int) - 52) - ((54 : Nat) : Int) - 1 + ((2 - a : Nat) : Int) + 1 + 1074).toNat = be + 1022 - al := by omega
  rw [nearest_sticky hB (by omega) (by omega) hlo hhi (by omega) (by omega), hr, hp]

end Go.Proofs.Yteeglmfjogoggaa
