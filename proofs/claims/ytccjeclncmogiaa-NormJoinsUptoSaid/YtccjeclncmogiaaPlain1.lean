/-
  Plain functions that package real and the document's answers for layer 1 compute, and that they are the same; no program.
  Conditions: where a lemma says so, that the arguments are int64 numbers.
-/
import Derived.Test.YtccjeclncmogiaaFloat
import Derived.WalkKit
import Derived.WalkLawsBesides
import Derived.Laws.Bits64b
import Derived.Laws.Externs
namespace Go.Proofs.Ytccjeclncmogiaa
open Go.RowKit

def ub (a : Int) : Nat := (IntKind.u64.wrap a).toNat

theorem wrap_u64_ub (a : Int) : IntKind.u64.wrap a = (ub a : Int) := by
  unfold ub; rw [IntKind.wrap_u64]; omega

def RBits (b : Nat) : Int := if rnan b then 9221120237041090560 else wrap64 (b : Int)

def RCanon (a : Int) : Int := RBits (ub a)

theorem nan_word (t : Nat) : rnan ((t % 2) * 2 ^ 63 + 0x7ff0000000000000 + 1 + (t / 2) % (2 ^ 52 - 1)) = true := by
  have h1 : (t / 2) % (2 ^ 52 - 1) < 2 ^ 52 - 1 := Nat.mod_lt _ (by decide)
  generalize (t / 2) % (2 ^ 52 - 1) = k at *
  have h2 : t % 2 < 2 := Nat.mod_lt _ (by decide)
  generalize t % 2 = s at *
  have hr : ∃ n f, Ieee.double.read (s * 2 ^ 63 + 0x7ff0000000000000 + 1 + k) = .nan n f := by
    unfold Ieee.Format.read
    have e1 : Ieee.double.signWeight = 2 ^ 63 := by decide
    have e2 : Ieee.double.binade = 2 ^ 52 := by decide
    have e3 : Ieee.double.infRung = 0x7ff0000000000000 := by decide
    rw [e1, e2, e3]
    dsimp only
    have e4 : (s * 2 ^ 63 + 0x7ff0000000000000 + 1 + k) % 2 ^ 63 = 0x7ff0000000000000 + 1 + k := by omega
    rw [e4, if_neg (by omega), if_neg (by omega), if_neg (by omega)]
    exact ⟨_, _, rfl⟩
  obtain ⟨n, f, h⟩ := hr
  unfold rnan Ieee.Format.order
  rw [h]
  rfl

theorem RBits_nan {nb : Nat} (h : rnan nb = true) : RBits nb = 9221120237041090560 := by unfold RBits; rw [if_pos h]

/-- a sum, difference, product, quotient: the operation's word in its one form; NaN where there is none -/
def ROf (o : Option Nat) : Int := match o with | some r => RBits r | none => 9221120237041090560

def RNeg (a : Int) : Int := RBits (Op.negFloat .f64 (ub a))

def ROfInt (n : Int) : Int := RBits (floatOfInt .f64 n)

def fcmp (x y : Nat) : Int := match Ieee.double.order x y with | some .lt => -1 | some .gt => 1 | _ => 0

def forder (x y : Nat) : Int := if rnan x then (if rnan y then 0 else 1) else if rnan y then -1 else fcmp x y

def ROrder (a b : Int) : Int := forder (ub a) (ub b)

def RToInt (a : Int) : Int × Int := match floatToIntVal .f64 (ub a) .i64 with | some n => (n, 0) | none => (0, 10)

def tbad (b : Nat) : Bool := rnan b || Ieee.double.order b 14114281232179134464 == some .lt || (Ieee.double.order b 4890909195324358656 == some .gt || Ieee.double.order b 4890909195324358656 == some .eq)

/-- the power of ten, as a word -/
def P10 (k : Nat) : Nat := floatOfInt .f64 (10 ^ k : Nat)

theorem p10_step : ∀ k, k < 15 → Ieee.double.mul (P10 k) 4621819117588971520 = some (P10 (k + 1)) := by decide +kernel

def dbad (m s : Int) : Bool := decide (m < 0) || decide (999999999999999 < m) || decide (s < 0) || decide (15 < s)

def ROfDecimal (m s : Int) : Int × Int := if dbad m s then (0, 11) else (ROf (Ieee.double.div (floatOfInt .f64 m) (P10 s.toNat)), 0)

theorem ub_lt (a : Int) : ub a < 18446744073709551616 := by unfold ub; rw [IntKind.wrap_u64]; omega

theorem ret_i {k : IntKind} {a b : Int} (h : a = b) : Ending.returned (.int k a) = .returned (.int k b) := by rw [h]

theorem ret_i2 {k l : IntKind} {a b c d : Int} (h : a = b) (g : c = d) : Ending.returned (.tuple #[.int k a, .int l c]) = .returned (.tuple #[.int k b, .int l d]) := by rw [h, g]

theorem ret_i3 {k l m : IntKind} {a b c d e f : Int} (h : a = b) (g : c = d) (i : e = f) : Ending.returned (.tuple #[.int k a, .int l c, .int m e]) = .returned (.tuple #[.int k b, .int l d, .int m f]) := by rw [h, g, i]

theorem and2047 (n : Nat) (h : n < 18446744073709551616) : bits .and .u64 (n : Int) 2047 = ((n % 2048 : Nat) : Int) := by
  have := bits_and_u64_nat n 2047 h (by decide)
  rw [show ((2047 : Nat) : Int) = 2047 from rfl] at this
  rw [this, show (2047 : Nat) = 2 ^ 11 - 1 from rfl, Nat.and_two_pow_sub_one_eq_mod]

theorem and52 (n : Nat) (h : n < 18446744073709551616) : bits .and .u64 (n : Int) 4503599627370495 = ((n % 4503599627370496 : Nat) : Int) := by
  have := bits_and_u64_nat n 4503599627370495 h (by decide)
  rw [show ((4503599627370495 : Nat) : Int) = 4503599627370495 from rfl] at this
  rw [this, show (4503599627370495 : Nat) = 2 ^ 52 - 1 from rfl, Nat.and_two_pow_sub_one_eq_mod]

theorem ub_parts (a : Int) : rg (ub a) = ub a / 4503599627370496 % 2048 * 4503599627370496 + ub a % 4503599627370496 := by
  unfold rg; have := ub_lt a; omega

theorem ub_sign (a : Int) : sg (ub a) = decide (ub a / 9223372036854775808 = 1) := by
  unfold sg; have := ub_lt a
  rw [Nat.mod_eq_of_lt (by omega)]; rfl

def PCanon (a : Int) : Int := if rnan (ub a) then 9221120237041090560 else a

/-- a number's place in the document's order -/
def PPlace (a : Int) : Int := if rnan (ub a) then 9223372036854775807 else pl (ub a)

def POrder (a b : Int) : Int := if PPlace a < PPlace b then -1 else if PPlace b < PPlace a then 1 else 0

theorem ub_wrap (b : Nat) (h : b < 18446744073709551616) : ub (wrap64 (b : Int)) = b := by
  unfold ub wrap64; rw [IntKind.wrap_u64]; omega

theorem nan_word_lt (t : Nat) : ((t % 2) * 2 ^ 63 + 0x7ff0000000000000 + 1 + (t / 2) % (2 ^ 52 - 1)) < 18446744073709551616 := by
  have h1 : (t / 2) % (2 ^ 52 - 1) < 2 ^ 52 - 1 := Nat.mod_lt _ (by decide)
  generalize (t / 2) % (2 ^ 52 - 1) = k at *
  have h2 : t % 2 < 2 := Nat.mod_lt _ (by decide)
  omega

def PNeg (a : Int) : Int := if rnan (ub a) then 9221120237041090560 else bits .xor .i64 a (-9223372036854775808)

def InI (a : Int) : Prop := -9223372036854775808 ≤ a ∧ a ≤ 9223372036854775807

theorem wrap_ub {a : Int} (h : InI a) : wrap64 (ub a : Int) = a := by
  obtain ⟨h1, h2⟩ := h
  unfold ub wrap64; rw [IntKind.wrap_u64]; omega

theorem wrap_in (n : Int) : InI (wrap64 n) := by unfold InI wrap64; omega

theorem canon_eq {a : Int} (h : InI a) : RCanon a = PCanon a := by
  unfold RCanon PCanon RBits; rw [wrap_ub h]

theorem xor_min (a : Int) : bits .xor .i64 a (-9223372036854775808) = wrap64 (ng (ub a) : Int) := by
  unfold bits
  dsimp only
  rw [IntKind.wrap_i64, BitVec.toNat_xor]
  have h1 : (BitVec.ofInt IntKind.i64.bits a).toNat = ub a := by
    rw [BitVec.toNat_ofInt]; unfold ub; rw [IntKind.wrap_u64]; rfl
  have h2 : (BitVec.ofInt IntKind.i64.bits (-9223372036854775808)).toNat = 2 ^ 63 := by decide
  rw [h1, h2]
  unfold wrap64 ng
  rfl

theorem nan_ub : ub 9221120237041090560 = 9221120237041090560 := by decide

theorem nan_rnan : rnan 9221120237041090560 = true := by decide +kernel

theorem rnan_ng (b : Nat) (h : b < 18446744073709551616) : rnan (ng b) = rnan b := by
  rw [rnan_iff, rnan_iff, rg_ng b h]

theorem neg_eq (a : Int) : RNeg a = PNeg a := by
  unfold RNeg PNeg RBits
  rw [xor_min]
  have : Op.negFloat .f64 (ub a) = ng (ub a) := rfl
  rw [this, rnan_ng _ (ub_lt a)]

theorem pl_bound (b : Nat) (h : rnan b = false) : -9218868437227405312 ≤ pl b ∧ pl b ≤ 9218868437227405312 := by
  have := rnan_false h
  unfold pl
  unfold INF at this
  split <;> omega

theorem order_eq (a b : Int) : ROrder a b = POrder a b := by
  unfold ROrder POrder forder PPlace
  rcases ha : rnan (ub a) with _ | _ <;> rcases hb : rnan (ub b) with _ | _
  · have h1 := order_pl (ub a) (ub b) (rnan_false ha) (rnan_false hb)
    simp only [Bool.false_eq_true, if_false]
    unfold fcmp
    rw [h1]
    by_cases c : pl (ub a) < pl (ub b)
    · rw [cmp_lt c, if_pos c]
    · by_cases d : pl (ub b) < pl (ub a)
      · rw [cmp_gt d, if_neg c, if_pos d]
      · rw [cmp_eq (by omega), if_neg c, if_neg d]
  · have := pl_bound _ ha
    simp
    omega
  · have := pl_bound _ hb
    simp
    omega
  · simp

theorem porder_neg (a b : Int) : POrder a b = -POrder b a := by
  unfold POrder; repeat' split
  all_goals omega

theorem porder_canon (a : Int) : POrder a (PCanon a) = 0 := by
  have : PPlace (PCanon a) = PPlace a := by
    unfold PPlace PCanon
    rcases h : rnan (ub a) with _ | _
    · simp only [Bool.false_eq_true, if_false, h]
    · rw [if_pos rfl, nan_ub, nan_rnan, if_pos rfl, if_pos rfl]
  unfold POrder
  rw [this, if_neg (by omega), if_neg (by omega)]

theorem porder_vals (a b : Int) : POrder a b = -1 ∨ POrder a b = 0 ∨ POrder a b = 1 := by
  unfold POrder; repeat' split
  all_goals simp

theorem pcanon_in {a : Int} (h : InI a) : InI (PCanon a) := by
  unfold PCanon; split
  · unfold InI; omega
  · exact h

/-- a number in its one form -/
def Cn (a : Int) : Prop := InI a ∧ (rnan (ub a) = true → a = 9221120237041090560)

theorem cn_canon {a : Int} (h : InI a) : Cn (RCanon a) := by
  rw [canon_eq h]
  refine ⟨pcanon_in h, ?_⟩
  unfold PCanon
  rcases hn : rnan (ub a) with _ | _
  · simp [hn]
  · simp

theorem rbits_ub {a : Int} (h : InI a) (hn : rnan (ub a) = false) : RBits (ub a) = a := by
  unfold RBits; rw [hn, wrap_ub h]; rfl

theorem sum_nan_l (n : Bool) (f : Nat) (d : Ieee.Datum) : (Ieee.Datum.nan n f).sum d = none := by cases d <;> rfl

theorem sum_nan_r (n : Bool) (f : Nat) (d : Ieee.Datum) : d.sum (Ieee.Datum.nan n f) = none := by cases d <;> rfl

theorem prod_nan_l (n : Bool) (f : Nat) (d : Ieee.Datum) : (Ieee.Datum.nan n f).product d = none := by cases d <;> rfl

theorem prod_nan_r (n : Bool) (f : Nat) (d : Ieee.Datum) : d.product (Ieee.Datum.nan n f) = none := by cases d <;> rfl

theorem quot_nan_l (n : Bool) (f k : Nat) (d : Ieee.Datum) : Ieee.Datum.quotient k (Ieee.Datum.nan n f) d = none := by cases d <;> rfl

theorem quot_nan_r (n : Bool) (f k : Nat) (d : Ieee.Datum) : Ieee.Datum.quotient k d (Ieee.Datum.nan n f) = none := by cases d <;> rfl

theorem opp_nan (n : Bool) (f : Nat) : (Ieee.Datum.nan n f).opposite = .nan (!n) f := rfl

theorem op_nan (x y : Nat) (h : rnan x = true ∨ rnan y = true) : Ieee.double.add x y = none ∧ Ieee.double.sub x y = none ∧ Ieee.double.mul x y = none ∧ Ieee.double.div x y = none := by
  unfold Ieee.Format.add Ieee.Format.sub Ieee.Format.mul Ieee.Format.div
  rcases h with h | h
  · have h' : INF < rg x := by rw [rnan_iff] at h; exact of_decide_eq_true h
    obtain ⟨n, f, e⟩ := read_nan x h'
    rw [e, sum_nan_l, sum_nan_l, prod_nan_l, quot_nan_l]
    exact ⟨Option.map_none _, Option.map_none _, Option.map_none _, Option.map_none _⟩
  · have h' : INF < rg y := by rw [rnan_iff] at h; exact of_decide_eq_true h
    obtain ⟨n, f, e⟩ := read_nan y h'
    rw [e, opp_nan, sum_nan_r, sum_nan_r, prod_nan_r, quot_nan_r]
    exact ⟨Option.map_none _, Option.map_none _, Option.map_none _, Option.map_none _⟩

theorem pneg_num {a : Int} (hn : rnan (ub a) = false) : PNeg a = wrap64 (ng (ub a) : Int) := by
  unfold PNeg; rw [hn, xor_min, if_neg (by decide)]

theorem pneg_nan {a : Int} (ha : Cn a) (hn : rnan (ub a) = true) : PNeg a = a := by
  unfold PNeg; rw [hn, if_pos rfl]; exact (ha.2 hn).symm

theorem ub_neg {a : Int} (hn : rnan (ub a) = false) : ub (RNeg a) = ng (ub a) := by
  rw [neg_eq, pneg_num hn]
  exact ub_wrap _ (ng_lt _ (ub_lt a))

theorem law_sub {b : Int} (a : Int) (hb : Cn b) : ROf (Ieee.double.sub (ub a) (ub b)) = ROf (Ieee.double.add (ub a) (ub (RNeg b))) := by
  rcases hn : rnan (ub b) with _ | _
  · rw [ub_neg hn, sub_add _ _ (ub_lt b)]
  · have h2 : RNeg b = b := by rw [neg_eq, pneg_nan hb hn]
    rw [h2, (op_nan _ _ (.inr hn)).1, (op_nan _ _ (.inr hn)).2.1]

theorem law_neg {a : Int} (ha : Cn a) : RNeg (RNeg a) = a := by
  rcases hn : rnan (ub a) with _ | _
  · have h1 := ub_neg hn
    have h2 : rnan (ub (RNeg a)) = false := by rw [h1, rnan_ng _ (ub_lt a), hn]
    rw [neg_eq (RNeg a), pneg_num h2, h1, ng_ng]
    exact wrap_ub ha.1
  · have h2 : RNeg a = a := by rw [neg_eq, pneg_nan ha hn]
    rw [h2, h2]

theorem law_mul {a : Int} (ha : Cn a) : ROf (Ieee.double.mul (ub a) (ub 4607182418800017408)) = a := by
  have ho : ub 4607182418800017408 = one := by decide
  rw [ho]
  rcases hn : rnan (ub a) with _ | _
  · rw [mul_one' _ (ub_lt a) (rnan_false hn)]
    exact rbits_ub ha.1 hn
  · rw [(op_nan _ _ (.inl hn)).2.2.1, ha.2 hn]; rfl

theorem law_div {a : Int} (ha : Cn a) : ROf (Ieee.double.div (ub a) (ub 4607182418800017408)) = a := by
  have ho : ub 4607182418800017408 = one := by decide
  rw [ho]
  rcases hn : rnan (ub a) with _ | _
  · rw [div_one' _ (ub_lt a) (rnan_false hn)]
    exact rbits_ub ha.1 hn
  · rw [(op_nan _ _ (.inl hn)).2.2.2, ha.2 hn]; rfl

theorem run_float_nan {P : Program} (op : BinOp) (hop : op = .add ∨ op = .sub ∨ op = .mul ∨ op = .quo) (t : TypeId) (x y : Nat) (h : floatBits op .f64 x y = none) (w : World) :
    ∃ nb, rnan nb = true ∧ (binOp op t (.float .f64 x) (.float .f64 y)).run P w = .ok (.float .f64 nb) w.drew := by
  refine ⟨_, nan_word (w.tape w.drawn (.nanBits .f64 x y)), ?_⟩
  unfold floatBits at h
  rcases hop with rfl | rfl | rfl | rfl <;> simp only at h <;> simp [binOp, Op.floatArith, h, Question.forced, Question.cut]

theorem run_float_nan_lt {P : Program} (op : BinOp) (hop : op = .add ∨ op = .sub ∨ op = .mul ∨ op = .quo) (t : TypeId) (x y : Nat) (h : floatBits op .f64 x y = none) (w : World) :
    ∃ nb, rnan nb = true ∧ nb < 18446744073709551616 ∧ (binOp op t (.float .f64 x) (.float .f64 y)).run P w = .ok (.float .f64 nb) w.drew := by
  refine ⟨_, nan_word (w.tape w.drawn (.nanBits .f64 x y)), nan_word_lt _, ?_⟩
  unfold floatBits at h
  rcases hop with rfl | rfl | rfl | rfl <;> simp only at h <;> simp [binOp, Op.floatArith, h, Question.forced, Question.cut]

end Go.Proofs.Ytccjeclncmogiaa
