/-
  Plain mathematics of binary64 words, no program: what a word reads as, that the order of two words is that of their places, that an exact number is written as its own word.
  Conditions: none.
-/
import Derived.Laws.FloatArith
namespace Go.Proofs.Ytccjeclncmogiaa
open Ieee

def rnan (b : Nat) : Bool := double.order b b != some .eq
def sg (b : Nat) : Bool := b / 9223372036854775808 % 2 == 1
def rg (b : Nat) : Nat := b % 9223372036854775808
def INF : Nat := 9218868437227405312
def M (r : Nat) : Nat := if r < 4503599627370496 then r else 4503599627370496 + r % 4503599627370496
def E (r : Nat) : Nat := r / 4503599627370496 - 1
def V (r : Nat) : Nat := M r * 2 ^ E r

theorem read_num (b : Nat) (h : rg b < INF) : double.read b = .number (sg b) (M (rg b)) (-1074 + (E (rg b) : Nat)) := by
  unfold Format.read
  have e1 : double.signWeight = 9223372036854775808 := by decide
  have e2 : double.binade = 4503599627370496 := by decide
  have e3 : double.infRung = 9218868437227405312 := by decide
  have e4 : double.leastPlace = -1074 := by decide
  rw [e1, e2, e3, e4]
  dsimp only
  change rg b < 9218868437227405312 at h
  change (if rg b < 4503599627370496 then Datum.number (sg b) (rg b) (-1074) else if rg b < 9218868437227405312 then Datum.number (sg b) (4503599627370496 + rg b % 4503599627370496) (-1074 + ((rg b / 4503599627370496 - 1 : Nat) : Int)) else _) = _
  unfold M E
  by_cases c : rg b < 4503599627370496
  · rw [if_pos c, if_pos c, Nat.div_eq_of_lt c]; rfl
  · rw [if_neg c, if_neg c, if_pos h]

theorem read_inf (b : Nat) (h : rg b = INF) : double.read b = .infinity (sg b) := by
  unfold Format.read
  have e1 : double.signWeight = 9223372036854775808 := by decide
  have e2 : double.binade = 4503599627370496 := by decide
  have e3 : double.infRung = 9218868437227405312 := by decide
  rw [e1, e2, e3]
  dsimp only
  change rg b = 9218868437227405312 at h
  change (if rg b < 4503599627370496 then _ else if rg b < 9218868437227405312 then _ else if rg b = 9218868437227405312 then Datum.infinity (sg b) else _) = _
  rw [if_neg (by omega), if_neg (by omega), if_pos h]

theorem read_nan (b : Nat) (h : INF < rg b) : ∃ n f, double.read b = .nan n f := by
  unfold Format.read
  have e1 : double.signWeight = 9223372036854775808 := by decide
  have e2 : double.binade = 4503599627370496 := by decide
  have e3 : double.infRung = 9218868437227405312 := by decide
  rw [e1, e2, e3]
  dsimp only
  change 9218868437227405312 < rg b at h
  change ∃ n f, (if rg b < 4503599627370496 then _ else if rg b < 9218868437227405312 then _ else if rg b = 9218868437227405312 then _ else Datum.nan (sg b) (rg b - 9218868437227405312)) = _
  rw [if_neg (by omega), if_neg (by omega), if_neg (by omega)]
  exact ⟨_, _, rfl⟩

theorem M_lt (r : Nat) : M r < 9007199254740992 := by unfold M; split <;> omega

theorem V_succ (r : Nat) : V r < V (r + 1) := by
  unfold V M E
  by_cases c : r + 1 < 4503599627370496
  · rw [if_pos (by omega), if_pos c, Nat.div_eq_of_lt (by omega), Nat.div_eq_of_lt c]; simp
  · by_cases c2 : r + 1 = 4503599627370496
    · obtain rfl : r = 4503599627370495 := by omega
      decide
    · rw [if_neg (by omega), if_neg c]
      by_cases c3 : r % 4503599627370496 + 1 < 4503599627370496
      · have h1 : (r + 1) / 4503599627370496 = r / 4503599627370496 := by omega
        have h2 : (r + 1) % 4503599627370496 = r % 4503599627370496 + 1 := by omega
        rw [h1, h2]
        exact Nat.mul_lt_mul_of_pos_right (by omega) (Nat.two_pow_pos _)
      · have h1 : (r + 1) / 4503599627370496 - 1 = (r / 4503599627370496 - 1) + 1 := by omega
        have h2 : (r + 1) % 4503599627370496 = 0 := by omega
        rw [h1, h2, Nat.pow_succ, Nat.mul_comm (2 ^ _) 2, ← Nat.mul_assoc]
        exact Nat.mul_lt_mul_of_pos_right (by omega) (Nat.two_pow_pos _)

theorem V_mono {r q : Nat} (h : r < q) : V r < V q := by
  induction q with
  | zero => omega
  | succ q ih =>
    by_cases c : r = q
    · subst c; exact V_succ _
    · exact Nat.lt_trans (ih (by omega)) (V_succ _)

theorem V_zero : V 0 = 0 := by decide

/-- a word's place in the order: its rung, with the sign -/
def pl (b : Nat) : Int := if sg b then -(rg b : Int) else (rg b : Int)

def sV (s : Bool) (r : Nat) : Int := if s then -(V r : Int) else (V r : Int)

theorem sV_lt (s t : Bool) (r q : Nat) : sV s r < sV t q ↔ (if s then -(r : Int) else r) < (if t then -(q : Int) else q) := by
  have z := V_zero
  have hr : r = 0 ∨ (0 < V r ∧ 0 < r) := by
    by_cases c : r = 0
    · exact .inl c
    · right; have := V_mono (r := 0) (q := r) (by omega); exact ⟨by omega, by omega⟩
  have hq : q = 0 ∨ (0 < V q ∧ 0 < q) := by
    by_cases c : q = 0
    · exact .inl c
    · right; have := V_mono (r := 0) (q := q) (by omega); exact ⟨by omega, by omega⟩
  rcases Nat.lt_trichotomy r q with c | c | c
  · have := V_mono c
    cases s <;> cases t <;> simp [sV] <;> omega
  · subst c
    rcases hr with rfl | hr
    · cases s <;> cases t <;> simp [sV, z]
    · cases s <;> cases t <;> simp [sV] <;> omega
  · have := V_mono c
    cases s <;> cases t <;> simp [sV] <;> omega

theorem sV_eq (s t : Bool) (r q : Nat) : sV s r = sV t q ↔ (if s then -(r : Int) else (r : Int)) = (if t then -(q : Int) else q) := by
  have h1 := sV_lt s t r q
  have h2 := sV_lt t s q r
  omega

theorem signed_shift (s : Bool) (m u k : Nat) : signed s m u * (2 ^ k : Nat) = signed s m (u + k) := by
  unfold signed
  have : m <<< (u + k) = m <<< u * 2 ^ k := by rw [Nat.shiftLeft_eq, Nat.shiftLeft_eq, Nat.pow_add, Nat.mul_assoc]
  rw [this]
  cases s <;> simp [Int.neg_mul]

theorem signed_V (s : Bool) (r : Nat) : signed s (M r) (E r) = sV s r := by
  unfold signed sV V
  rw [Nat.shiftLeft_eq]

theorem compare_scaled (a b : Int) (k : Nat) : compare a b = compare (a * (2 ^ k : Nat)) (b * (2 ^ k : Nat)) := by
  have hk : (0 : Int) < ((2 ^ k : Nat) : Int) := by have := Nat.two_pow_pos k; omega
  simp only [compare, compareOfLessAndEq]
  have h1 : a < b ↔ a * ((2 ^ k : Nat) : Int) < b * ((2 ^ k : Nat) : Int) := (Int.mul_lt_mul_right hk).symm
  have h2 : a = b ↔ a * ((2 ^ k : Nat) : Int) = b * ((2 ^ k : Nat) : Int) := ⟨fun h => by rw [h], fun h => Int.eq_of_mul_eq_mul_right (by omega) h⟩
  simp only [h1, h2]

theorem compare_sV (s t : Bool) (r q : Nat) : compare (sV s r) (sV t q) = compare (if s then -(r : Int) else (r : Int)) (if t then -(q : Int) else q) := by
  simp only [compare, compareOfLessAndEq, sV_lt, sV_eq]

theorem cmp_lt {a b : Int} (h : a < b) : compare a b = .lt := by simp [compare, compareOfLessAndEq, h]
theorem cmp_gt {a b : Int} (h : b < a) : compare a b = .gt := by
  have h1 : ¬ a < b := by omega
  have h2 : ¬ a = b := by omega
  simp [compare, compareOfLessAndEq, h1, h2]
theorem cmp_eq {a b : Int} (h : a = b) : compare a b = .eq := by subst h; simp [compare, compareOfLessAndEq]

theorem order_pl (x y : Nat) (hx : rg x ≤ INF) (hy : rg y ≤ INF) : double.order x y = some (compare (pl x) (pl y)) := by
  unfold Format.order
  by_cases cx : rg x = INF
  · rw [read_inf x cx]
    by_cases cy : rg y = INF
    · rw [read_inf y cy]
      unfold Datum.order pl
      rw [cx, cy]
      cases sg x <;> cases sg y <;> decide
    · rw [read_num y (by omega)]
      unfold Datum.order pl
      rw [cx]
      have hy' : (rg y : Int) < INF := by omega
      have hy0 : (0 : Int) ≤ rg y := by omega
      unfold INF at *
      cases sg x <;> cases sg y <;> first | (rw [cmp_lt (by simp; omega)]; rfl) | (rw [cmp_gt (by simp; omega)]; rfl)
  · rw [read_num x (by omega)]
    by_cases cy : rg y = INF
    · rw [read_inf y cy]
      unfold Datum.order pl
      rw [cy]
      have hy' : (rg x : Int) < INF := by omega
      have hy0 : (0 : Int) ≤ rg x := by omega
      unfold INF at *
      cases sg x <;> cases sg y <;> first | (rw [cmp_lt (by simp; omega)]; rfl) | (rw [cmp_gt (by simp; omega)]; rfl)
    · rw [read_num y (by omega)]
      unfold Datum.order
      dsimp only
      generalize hb : min (-1074 + (E (rg x) : Int)) (-1074 + (E (rg y) : Int)) = base
      rw [compare_scaled _ _ (base + 1074).toNat, signed_shift, signed_shift]
      have e1 : (-1074 + (E (rg x) : Int) - base).toNat + (base + 1074).toNat = E (rg x) := by omega
      have e2 : (-1074 + (E (rg y) : Int) - base).toNat + (base + 1074).toNat = E (rg y) := by omega
      rw [e1, e2, signed_V, signed_V, compare_sV]
      rfl

theorem order_nan (x y : Nat) (h : INF < rg x ∨ INF < rg y) : double.order x y = none := by
  unfold Format.order
  rcases h with h | h
  · obtain ⟨n, f, e⟩ := read_nan x h
    rw [e]; rfl
  · obtain ⟨n, f, e⟩ := read_nan y h
    rw [e]
    cases double.read x <;> rfl

theorem rnan_iff (b : Nat) : rnan b = decide (INF < rg b) := by
  unfold rnan
  by_cases h : INF < rg b
  · rw [order_nan b b (.inl h)]; simp [h]
  · rw [order_pl b b (by omega) (by omega)]; simp [h, compare, compareOfLessAndEq]

theorem log2_eq {n k : Nat} (h1 : 2 ^ k ≤ n) (h2 : n < 2 ^ (k + 1)) : n.log2 = k := by
  have hn : n ≠ 0 := by have := Nat.two_pow_pos k; omega
  have a := (Nat.le_log2 hn).2 h1
  have b := (Nat.log2_lt hn).2 h2
  omega

theorem log2_bounds {n : Nat} (hn : n ≠ 0) : 2 ^ n.log2 ≤ n ∧ n < 2 ^ (n.log2 + 1) :=
  ⟨(Nat.le_log2 hn).1 (Nat.le_refl _), (Nat.log2_lt hn).1 (Nat.lt_succ_self _)⟩

theorem log2_shift {n : Nat} (k : Nat) (hn : n ≠ 0) : (n * 2 ^ k).log2 = n.log2 + k := by
  obtain ⟨a, b⟩ := log2_bounds hn
  refine log2_eq ?_ ?_
  · rw [Nat.pow_add]; exact Nat.mul_le_mul_right _ a
  · rw [show n.log2 + k + 1 = (n.log2 + 1) + k from by omega, Nat.pow_add]
    exact Nat.mul_lt_mul_of_pos_right b (Nat.two_pow_pos _)

theorem cut_exact (way : Toward) (s : Bool) (m k : Nat) (hm : m ≠ 0) : way.cut s (m * 2 ^ k) k = m := by
  unfold Toward.cut
  have h1 : min k ((m * 2 ^ k).log2 + 2) = k := by rw [log2_shift k hm]; omega
  have h2 : m * 2 ^ k / 2 ^ k = m := Nat.mul_div_cancel _ (Nat.two_pow_pos _)
  have h3 : m * 2 ^ k % 2 ^ k = 0 := Nat.mul_mod_left _ _
  have h4 : 0 < 2 ^ k := Nat.two_pow_pos _
  dsimp only
  rw [h1, Nat.shiftLeft_eq, Nat.one_mul, h2, h3]
  cases way <;> simp

theorem word_sr (s : Bool) (r : Nat) : double.word s r = (if s then 9223372036854775808 else 0) + r := by
  unfold Format.word
  have e1 : double.signWeight = 9223372036854775808 := by decide
  rw [e1]
  cases s <;> simp

theorem word_eq (b : Nat) (h : b < 18446744073709551616) : double.word (sg b) (rg b) = b := by
  rw [word_sr]
  unfold sg rg
  by_cases c : b / 9223372036854775808 % 2 = 1 <;> simp [c] <;> omega

theorem sg_word (s : Bool) (r : Nat) (h : r < 9223372036854775808) : sg (double.word s r) = s := by
  rw [word_sr]
  unfold sg
  cases s <;> simp <;> omega

theorem rg_word (s : Bool) (r : Nat) (h : r < 9223372036854775808) : rg (double.word s r) = r := by
  rw [word_sr]
  unfold rg
  cases s <;> simp <;> omega

theorem M_zero {r : Nat} : M r = 0 ↔ r = 0 := by
  unfold M
  split <;> omega

theorem log2_M_sub {r : Nat} (h : r < 4503599627370496) (h0 : r ≠ 0) : (M r).log2 < 52 := by
  unfold M
  rw [if_pos h]
  exact (Nat.log2_lt h0).2 (by omega)

theorem log2_M_norm {r : Nat} (h : ¬ r < 4503599627370496) : (M r).log2 = 52 := by
  unfold M
  rw [if_neg h]
  exact log2_eq (by omega) (by omega)

theorem rung_split {r : Nat} (h : 4503599627370496 ≤ r) : E r * 4503599627370496 + M r = r := by
  unfold E M
  rw [if_neg (by omega)]
  have h1 := Nat.div_add_mod r 4503599627370496
  have h2 : 1 ≤ r / 4503599627370496 := by omega
  generalize r / 4503599627370496 = q at *
  generalize r % 4503599627370496 = m at *
  omega

theorem nearest_exact (s : Bool) (r k : Nat) (h : r < INF) : double.nearest s (M r * 2 ^ k) (-1074 + (E r : Nat) - k) = double.word s r := by
  unfold Format.nearest
  have e1 : double.fractionBits = 52 := rfl
  have e2 : double.binade = 4503599627370496 := by decide
  have e3 : double.infRung = 9218868437227405312 := by decide
  have e4 : double.leastPlace = -1074 := by decide
  by_cases c : r = 0
  · subst c; rw [if_pos (by rw [M_zero.2 rfl, Nat.zero_mul])]
  · have hM : M r ≠ 0 := fun e => c (M_zero.1 e)
    have hk : M r * 2 ^ k ≠ 0 := Nat.mul_ne_zero hM (by have := Nat.two_pow_pos k; omega)
    rw [if_neg hk]
    dsimp only
    rw [e1, e2, e3, e4, log2_shift k hM]
    unfold INF at h
    by_cases d : r < 4503599627370496
    · have hl := log2_M_sub d c
      have hE : E r = 0 := by unfold E; omega
      have h1 : max (-1074 + (E r : Int) - k + ((M r).log2 + k : Nat) - (52 : Nat)) (-1074) = -1074 := by omega
      rw [h1]
      have h2 : (-1074 + (E r : Int) - k - -1074).toNat = 0 := by omega
      have h3 : (-1074 - (-1074 + (E r : Int) - k)).toNat = k := by omega
      have h4 : (-1074 - -1074 : Int).toNat = 0 := by omega
      rw [h2, h3, h4, Nat.shiftLeft_zero, cut_exact _ _ _ _ hM]
      rw [Nat.zero_mul, Nat.zero_add, show M r = r from by unfold M; exact if_pos d, Nat.min_eq_left (by omega)]
    · have hl := log2_M_norm d
      have hE : (E r : Int) = r / 4503599627370496 - 1 := by unfold E; omega
      have h1 : max (-1074 + (E r : Int) - k + ((M r).log2 + k : Nat) - (52 : Nat)) (-1074) = -1074 + E r := by omega
      rw [h1]
      have h2 : (-1074 + (E r : Int) - k - (-1074 + (E r : Int))).toNat = 0 := by omega
      have h3 : (-1074 + (E r : Int) - (-1074 + (E r : Int) - k)).toNat = k := by omega
      have h4 : (-1074 + (E r : Int) - -1074).toNat = E r := by omega
      rw [h2, h3, h4, Nat.shiftLeft_zero, cut_exact _ _ _ _ hM]
      rw [rung_split (by omega), Nat.min_eq_left (by omega)]

theorem sum_comm (x y : Datum) : x.sum y = y.sum x := by
  cases x <;> cases y <;> simp only [Datum.sum]
  · rename_i s m i t n j
    rw [Int.min_comm i j, Int.add_comm (signed s _ _), Bool.and_comm s t]
  · rename_i s t
    by_cases h : s = t
    · subst h; rfl
    · rw [if_neg h, if_neg (fun e => h e.symm)]

theorem product_comm (x y : Datum) : x.product y = y.product x := by
  cases x <;> cases y <;> simp only [Datum.product]
  · rename_i s m i t n j
    rw [Bool.xor_comm, Nat.mul_comm, Int.add_comm]
  · rename_i s t
    rw [Bool.xor_comm]

theorem add_comm' (x y : Nat) : double.add x y = double.add y x := by
  unfold Format.add; rw [sum_comm]

theorem mul_comm' (x y : Nat) : double.mul x y = double.mul y x := by
  unfold Format.mul; rw [product_comm]

/-- the word with the other sign -/
def ng (b : Nat) : Nat := b ^^^ 2 ^ 63

theorem ng_eq (b : Nat) (h : b < 18446744073709551616) : ng b = if b < 9223372036854775808 then b + 9223372036854775808 else b - 9223372036854775808 := by
  unfold ng
  have e : b = (b / 2 ^ 63) * 2 ^ 63 + b % 2 ^ 63 := by omega
  have hlt : b % 2 ^ 63 < 2 ^ 63 := Nat.mod_lt _ (by decide)
  have hx : b ^^^ 2 ^ 63 = ((b / 2 ^ 63) ^^^ 1) * 2 ^ 63 + b % 2 ^ 63 := by
    apply Nat.eq_of_testBit_eq
    intro i
    rw [Nat.testBit_xor, Nat.testBit_two_pow, Nat.mul_comm, Nat.testBit_two_pow_mul_add _ hlt, Nat.testBit_xor, Nat.testBit_div_two_pow, Nat.testBit_mod_two_pow]
    by_cases c : i < 63
    · have : ¬ 63 = i := by omega
      simp [c, this]
    · rw [if_neg c, show i - 63 + 63 = i from by omega, show (1 : Nat) = 2 ^ 0 from rfl, Nat.testBit_two_pow]
      have : (0 = i - 63) = (63 = i) := propext ⟨fun _ => by omega, fun _ => by omega⟩
      simp only [this]
  rw [hx]
  by_cases c : b < 9223372036854775808
  · rw [if_pos c, show b / 2 ^ 63 = 0 from by omega, show (0 ^^^ 1 : Nat) = 1 from rfl]; omega
  · rw [if_neg c, show b / 2 ^ 63 = 1 from by omega, show (1 ^^^ 1 : Nat) = 0 from rfl]; omega

theorem sg_ng (b : Nat) (h : b < 18446744073709551616) : sg (ng b) = !sg b := by
  rw [ng_eq b h]
  unfold sg
  by_cases c : b < 9223372036854775808
  · rw [if_pos c, show b / 9223372036854775808 = 0 from by omega, show (b + 9223372036854775808) / 9223372036854775808 = 1 from by omega]; rfl
  · rw [if_neg c, show b / 9223372036854775808 = 1 from by omega, show (b - 9223372036854775808) / 9223372036854775808 = 0 from by omega]; rfl

theorem rg_ng (b : Nat) (h : b < 18446744073709551616) : rg (ng b) = rg b := by
  rw [ng_eq b h]
  unfold rg
  by_cases c : b < 9223372036854775808
  · rw [if_pos c]; omega
  · rw [if_neg c]; omega

theorem ng_lt (b : Nat) (h : b < 18446744073709551616) : ng b < 18446744073709551616 := by
  rw [ng_eq b h]; split <;> omega

theorem ng_ng (b : Nat) : ng (ng b) = b := by unfold ng; rw [Nat.xor_assoc, Nat.xor_self, Nat.xor_zero]

theorem rg_trichotomy (b : Nat) : rg b < INF ∨ rg b = INF ∨ INF < rg b := Nat.lt_trichotomy _ _

theorem sub_add (x y : Nat) (hy : y < 18446744073709551616) : double.sub x y = double.add x (ng y) := by
  unfold Format.sub Format.add
  rcases rg_trichotomy y with h | h | h
  · rw [read_num y h, read_num (ng y) (by rw [rg_ng y hy]; exact h), rg_ng y hy, sg_ng y hy]; rfl
  · rw [read_inf y h, read_inf (ng y) (by rw [rg_ng y hy]; exact h), sg_ng y hy]; rfl
  · obtain ⟨n, f, e⟩ := read_nan y h
    obtain ⟨n', f', e'⟩ := read_nan (ng y) (by rw [rg_ng y hy]; exact h)
    rw [e, e']
    cases double.read x <;> rfl

/-! what a product and a quotient with 1 are -/

theorem rnan_false {b : Nat} (h : rnan b = false) : rg b ≤ INF := by
  rw [rnan_iff] at h; simp at h; exact h

def one : Nat := 4607182418800017408

theorem read_one : double.read one = .number false 4503599627370496 (-52) := by decide

theorem write_read (b : Nat) (hb : b < 18446744073709551616) (h : rg b ≤ INF) : double.write (double.read b) = b := by
  by_cases c : rg b = INF
  · rw [read_inf b c]
    unfold Format.write
    have e3 : double.infRung = INF := by decide
    dsimp only
    rw [e3, ← c, word_eq b hb]
  · rw [read_num b (by omega)]
    unfold Format.write
    have := nearest_exact (sg b) (rg b) 0 (by omega)
    rw [Nat.pow_zero, Nat.mul_one, show -1074 + (E (rg b) : Int) - ((0 : Nat) : Int) = -1074 + (E (rg b) : Int) from by omega] at this
    dsimp only
    rw [this, word_eq b hb]

theorem mul_one' (b : Nat) (hb : b < 18446744073709551616) (h : rg b ≤ INF) : double.mul b one = some b := by
  unfold Format.mul
  rw [read_one]
  by_cases c : rg b = INF
  · rw [read_inf b c]
    unfold Datum.product
    have := write_read b hb h
    rw [read_inf b c] at this
    simp only [Bool.xor_false]
    rw [if_neg (by decide), Option.map_some, this]
  · rw [read_num b (by omega)]
    unfold Datum.product
    have := nearest_exact (sg b) (rg b) 52 (by omega)
    rw [word_eq b hb] at this
    simp only [Bool.xor_false, Option.map_some, Format.write]
    rw [show (4503599627370496 : Nat) = 2 ^ 52 from by decide, show -1074 + (E (rg b) : Int) + -52 = -1074 + (E (rg b) : Int) - (52 : Nat) from by omega, this]

theorem div_one' (b : Nat) (hb : b < 18446744073709551616) (h : rg b ≤ INF) : double.div b one = some b := by
  unfold Format.div
  rw [read_one]
  by_cases c : rg b = INF
  · rw [read_inf b c]
    unfold Datum.quotient
    have := write_read b hb h
    rw [read_inf b c] at this
    simp only [Bool.xor_false]
    rw [Option.map_some, this]
  · rw [read_num b (by omega)]
    unfold Datum.quotient
    have hl : (4503599627370496 : Nat).log2 = 52 := log2_eq (by decide) (by decide)
    have hf : double.fractionBits = 52 := rfl
    have hM : (M (rg b)).log2 ≤ 52 := by
      by_cases z : M (rg b) = 0
      · rw [z]; decide
      · have := (Nat.log2_lt z).2 (show M (rg b) < 2 ^ 53 from M_lt _); omega
    dsimp only
    rw [if_neg (by decide), hl, hf]
    obtain ⟨j, hj⟩ : ∃ j, 52 + 2 + 52 - (M (rg b)).log2 = 52 + j := ⟨54 - (M (rg b)).log2, by omega⟩
    rw [hj]
    have h1 : M (rg b) <<< (52 + j) = M (rg b) * 2 ^ j * 4503599627370496 := by
      rw [Nat.shiftLeft_eq, Nat.pow_add, Nat.mul_assoc, Nat.mul_comm (2 ^ 52)]
    rw [h1, Nat.mul_div_cancel _ (by decide), Nat.mul_mod_left]
    have := nearest_exact (sg b) (rg b) (j + 1) (by omega)
    rw [word_eq b hb] at this
    simp only [Bool.xor_false, Option.map_some, Format.write]
    have h2 : 2 * (M (rg b) * 2 ^ j) + (0 != 0 : Bool).toNat = M (rg b) * 2 ^ (j + 1) := by
      rw [Nat.pow_succ]
      simp
      rw [Nat.mul_left_comm, Nat.mul_comm 2 (2 ^ j)]
    rw [h2, show -1074 + (E (rg b) : Int) - -52 - ((52 + j : Nat) : Int) - 1 = -1074 + (E (rg b) : Int) - ((j + 1 : Nat) : Int) from by omega, this]

/-! whole numbers -/

theorem cut_even (s : Bool) (n c : Nat) (hc : c ≤ n.log2 + 2) :
    Toward.even.cut s n c = n / 2 ^ c + (if 2 ^ c < 2 * (n % 2 ^ c) ∨ (2 ^ c = 2 * (n % 2 ^ c) ∧ n / 2 ^ c % 2 = 1) then 1 else 0) := by
  unfold Toward.cut
  dsimp only
  rw [Nat.min_eq_left hc, Nat.shiftLeft_eq, Nat.one_mul]
  congr 1
  generalize 2 ^ c = g
  generalize n % g = r
  generalize n / g % 2 = b
  by_cases h1 : g < 2 * r
  · rw [if_pos (.inl h1), decide_eq_true h1]; rfl
  · by_cases h2 : g = 2 * r
    · by_cases h3 : b = 1
      · rw [if_pos (.inr ⟨h2, h3⟩)]
        simp [h2, h3]
      · rw [if_neg (by omega)]
        simp [h2, h3]
    · rw [if_neg (by omega)]
      simp [h1, h2]

theorem nearest_num (s : Bool) (m : Nat) (p : Int) : rnan (double.nearest s m p) = false := by
  have e3 : double.infRung = INF := by decide
  rw [rnan_iff]
  unfold Format.nearest
  split
  · rw [rg_word _ _ (by decide)]; decide
  · dsimp only
    rw [e3, rg_word _ _ (Nat.lt_of_le_of_lt (Nat.min_le_right _ _) (by decide))]
    exact decide_eq_false (Nat.not_lt.2 (Nat.min_le_right _ _))

/-- the rung of the number nearest to a whole one, whose highest bit is k -/
def wholeRung (n k : Nat) : Nat :=
  if k ≤ 52 then (k + 1022) * 4503599627370496 + n * 2 ^ (52 - k)
  else (k + 1022) * 4503599627370496 + (n / 2 ^ (k - 52) + (if 2 ^ (k - 52) < 2 * (n % 2 ^ (k - 52)) ∨ (2 ^ (k - 52) = 2 * (n % 2 ^ (k - 52)) ∧ n / 2 ^ (k - 52) % 2 = 1) then 1 else 0))

theorem whole_small {n k : Nat} (h2 : n < 2 ^ (k + 1)) (c : k ≤ 52) : n * 2 ^ (52 - k) < 9007199254740992 := by
  have : n * 2 ^ (52 - k) < 2 ^ (k + 1) * 2 ^ (52 - k) := Nat.mul_lt_mul_of_pos_right h2 (Nat.two_pow_pos _)
  rw [← Nat.pow_add, show k + 1 + (52 - k) = 53 from by omega] at this
  exact this

theorem whole_quot {n k : Nat} (h2 : n < 2 ^ (k + 1)) (c : 52 < k) : n / 2 ^ (k - 52) < 9007199254740992 := by
  apply Nat.div_lt_of_lt_mul
  rw [show (9007199254740992 : Nat) = 2 ^ 53 from rfl, ← Nat.pow_add, show k - 52 + 53 = k + 1 from by omega]
  exact h2

theorem nearest_whole (s : Bool) (n k : Nat) (h1 : 2 ^ k ≤ n) (h2 : n < 2 ^ (k + 1)) (hk : k ≤ 63) : double.nearest s n 0 = double.word s (wholeRung n k) := by
  have hl : n.log2 = k := log2_eq h1 h2
  have hn : n ≠ 0 := by have := Nat.two_pow_pos k; omega
  have e1 : double.fractionBits = 52 := rfl
  have e2 : double.binade = 4503599627370496 := by decide
  have e3 : double.infRung = 9218868437227405312 := by decide
  have e4 : double.leastPlace = -1074 := by decide
  unfold Format.nearest wholeRung
  rw [if_neg hn]
  dsimp only
  rw [e1, e2, e3, e4, hl]
  have m1 : max ((0 : Int) + (k : Nat) - (52 : Nat)) (-1074) = (k : Int) - 52 := by omega
  rw [m1]
  have m4 : ((k : Int) - 52 - -1074).toNat = k + 1022 := by omega
  rw [m4]
  by_cases c : k ≤ 52
  · have m2 : ((0 : Int) - ((k : Int) - 52)).toNat = 52 - k := by omega
    have m3 : ((k : Int) - 52 - 0).toNat = 0 := by omega
    rw [m2, m3, if_pos c, Nat.shiftLeft_eq]
    have hne : n * 2 ^ (52 - k) ≠ 0 := Nat.mul_ne_zero hn (by have := Nat.two_pow_pos (52 - k); omega)
    have := cut_exact .even s (n * 2 ^ (52 - k)) 0 hne
    rw [Nat.pow_zero, Nat.mul_one] at this
    rw [this, Nat.min_eq_left]
    have := whole_small h2 c
    omega
  · have m2 : ((0 : Int) - ((k : Int) - 52)).toNat = 0 := by omega
    have m3 : ((k : Int) - 52 - 0).toNat = k - 52 := by omega
    rw [m2, m3, if_neg c, Nat.shiftLeft_zero, cut_even _ _ _ (by omega), Nat.min_eq_left]
    have := whole_quot h2 (Nat.lt_of_not_le c)
    split <;> omega

theorem wholeRung_lt {n k : Nat} (h2 : n < 2 ^ (k + 1)) (hk : k ≤ 63) : wholeRung n k < 9218868437227405312 := by
  unfold wholeRung
  split
  · rename_i c; have := whole_small h2 c; omega
  · rename_i c; have := whole_quot h2 (Nat.lt_of_not_le c); split <;> omega

theorem cut_zero (s : Bool) (n d : Nat) : Toward.zero.cut s n d = n / 2 ^ d := by
  unfold Toward.cut
  dsimp only
  rw [Nat.shiftLeft_eq, Nat.one_mul]
  show n / 2 ^ min d (n.log2 + 2) + 0 = _
  rw [Nat.add_zero]
  by_cases h : d ≤ n.log2 + 2
  · rw [Nat.min_eq_left h]
  · rw [Nat.min_eq_right (by omega)]
    by_cases z : n = 0
    · subst z; simp
    · have hb := (log2_bounds z).2
      have h1 : 2 ^ (n.log2 + 1) ≤ 2 ^ (n.log2 + 2) := Nat.pow_le_pow_right (by decide) (by omega)
      have h2 : 2 ^ (n.log2 + 1) ≤ 2 ^ d := Nat.pow_le_pow_right (by decide) (by omega)
      rw [Nat.div_eq_of_lt (by omega), Nat.div_eq_of_lt (by omega)]

/-- the whole part of the number on a rung -/
def TI (r : Nat) : Nat := if 1074 ≤ E r then M r * 2 ^ (E r - 1074) else M r / 2 ^ (1074 - E r)

theorem toInt_num (b : Nat) (h : rg b < INF) : (double.read b).toInt .zero = some (if sg b then -(TI (rg b) : Int) else (TI (rg b) : Int)) := by
  rw [read_num b h]
  unfold Datum.toInt Datum.integral
  dsimp only
  rw [cut_zero, Nat.shiftLeft_eq]
  unfold signed TI
  by_cases c : 1074 ≤ E (rg b)
  · have e1 : (-1074 + (E (rg b) : Int)).toNat = E (rg b) - 1074 := by omega
    have e2 : (-(-1074 + (E (rg b) : Int))).toNat = 0 := by omega
    rw [e1, e2, if_pos c, Nat.pow_zero, Nat.div_one, Nat.shiftLeft_zero]
  · have e1 : (-1074 + (E (rg b) : Int)).toNat = 0 := by omega
    have e2 : (-(-1074 + (E (rg b) : Int))).toNat = 1074 - E (rg b) := by omega
    rw [e1, e2, if_neg c, Nat.pow_zero, Nat.mul_one, Nat.shiftLeft_zero]

theorem TI_lt {r : Nat} (h : r < 4890909195324358656) : TI r < 9223372036854775808 := by
  have hM := M_lt r
  have hE : E r ≤ 1084 := by unfold E; omega
  unfold TI
  split
  · rename_i c
    have h2 : 2 ^ (E r - 1074) ≤ 2 ^ 10 := Nat.pow_le_pow_right (by decide) (by omega)
    have h3 : M r * 2 ^ (E r - 1074) ≤ M r * 2 ^ 10 := Nat.mul_le_mul_left _ h2
    omega
  · have := Nat.div_le_self (M r) (2 ^ (1074 - E r))
    omega

theorem TI_edge : TI 4890909195324358656 = 9223372036854775808 := by decide +kernel

theorem whole_big {n k : Nat} (h1 : 2 ^ k ≤ n) (c : k ≤ 52) : 4503599627370496 ≤ n * 2 ^ (52 - k) := by
  have : 2 ^ k * 2 ^ (52 - k) ≤ n * 2 ^ (52 - k) := Nat.mul_le_mul_right _ h1
  rw [← Nat.pow_add, show k + (52 - k) = 52 from by omega] at this
  exact this

theorem TI_whole {n k : Nat} (h1 : 2 ^ k ≤ n) (h2 : n < 2 ^ (k + 1)) (c : k ≤ 52) : TI (wholeRung n k) = n := by
  have hs := whole_small h2 c
  have hb := whole_big h1 c
  have hr : wholeRung n k = (k + 1022) * 4503599627370496 + n * 2 ^ (52 - k) := by unfold wholeRung; rw [if_pos c]
  have hE : E (wholeRung n k) = k + 1022 := by rw [hr]; unfold E; omega
  have hM : M (wholeRung n k) = n * 2 ^ (52 - k) := by rw [hr]; unfold M; rw [if_neg (by omega)]; omega
  unfold TI
  rw [hE, hM]
  by_cases d : k = 52
  · subst d
    rw [if_pos (by omega)]
    simp
  · rw [if_neg (by omega), show 1074 - (k + 1022) = 52 - k from by omega]
    exact Nat.mul_div_cancel _ (Nat.two_pow_pos _)

end Go.Proofs.Ytccjeclncmogiaa
