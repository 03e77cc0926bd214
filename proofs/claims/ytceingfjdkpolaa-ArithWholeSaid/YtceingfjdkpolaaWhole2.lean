/-
  Reals as whole numbers: what package real and the document's answer compute, over the translation.
  Conditions: the argument is an int64 number.
-/
import Derived.Test.YtceingfjdkpolaaWhole1
namespace Go.Proofs.Ytceingfjdkpolaa
open Go.RowKit

def KW : Nat := 4890909195324358656

theorem tbad_iff (b : Nat) : tbad b = true ↔ INF < rg b ∨ (sg b = false ∧ KW ≤ rg b) ∨ (sg b = true ∧ KW < rg b) := by
  unfold tbad
  by_cases hn : INF < rg b
  · have : rnan b = true := by rw [rnan_iff]; exact decide_eq_true hn
    rw [this]
    simp [hn]
  · have hr : rnan b = false := by rw [rnan_iff]; exact decide_eq_false hn
    have h1 : rg b ≤ INF := by omega
    rw [hr, order_pl b 14114281232179134464 h1 (by decide), order_pl b 4890909195324358656 h1 (by decide)]
    have p1 : pl 14114281232179134464 = -4890909195324358656 := by decide
    have p2 : pl 4890909195324358656 = 4890909195324358656 := by decide
    rw [p1, p2]
    unfold pl KW
    rcases hs : sg b with _ | _
    · simp only [Bool.false_eq_true, if_false]
      rcases Int.lt_trichotomy (rg b : Int) 4890909195324358656 with c | c | c
      · rw [cmp_lt c, cmp_gt (show (-4890909195324358656 : Int) < (rg b : Int) by omega)]
        simp; omega
      · rw [cmp_eq c, cmp_gt (show (-4890909195324358656 : Int) < (rg b : Int) by omega)]
        simp; omega
      · rw [cmp_gt c, cmp_gt (show (-4890909195324358656 : Int) < (rg b : Int) by omega)]
        simp; omega
    · simp only [if_true]
      rcases Int.lt_trichotomy (-(rg b : Int)) (-4890909195324358656) with c | c | c
      · rw [cmp_lt c, cmp_lt (show (-(rg b : Int)) < 4890909195324358656 by omega)]
        simp; omega
      · rw [cmp_eq c, cmp_lt (show (-(rg b : Int)) < 4890909195324358656 by omega)]
        simp; omega
      · rw [cmp_gt c, cmp_lt (show (-(rg b : Int)) < 4890909195324358656 by omega)]
        simp; omega

/-- the whole part of a number, with its sign -/
def TW (b : Nat) : Int := if sg b then -(TI (rg b) : Int) else (TI (rg b) : Int)

theorem toint_val (b : Nat) (h : tbad b = false) : floatToIntVal .f64 b .i64 = some (TW b) := by
  have hq : ¬ (INF < rg b ∨ (sg b = false ∧ KW ≤ rg b) ∨ (sg b = true ∧ KW < rg b)) := by
    rw [← tbad_iff, h]; decide
  unfold KW INF at hq
  have h1 : rg b < INF := by
    unfold INF
    rcases hs : sg b with _ | _ <;> rw [hs] at hq <;> simp at hq <;> omega
  have ht : FloatKind.f64.decode b = Ieee.double.read b := rfl
  unfold floatToIntVal
  rw [ht, toInt_num b h1]
  have hb : IntKind.i64.min ≤ TW b ∧ TW b ≤ IntKind.i64.max := by
    have e1 : IntKind.i64.min = -9223372036854775808 := by decide
    have e2 : IntKind.i64.max = 9223372036854775807 := by decide
    rw [e1, e2]
    unfold TW
    rcases hs : sg b with _ | _
    · rw [hs] at hq
      have := TI_lt (r := rg b) (by simp at hq; omega)
      simp only [Bool.false_eq_true, if_false]
      omega
    · rw [hs] at hq
      simp only [if_true]
      rcases Nat.lt_or_ge (rg b) 4890909195324358656 with c | c
      · have := TI_lt c; omega
      · have : rg b = 4890909195324358656 := by simp at hq; omega
        rw [this, TI_edge]; omega
  show (if IntKind.i64.min ≤ TW b ∧ TW b ≤ IntKind.i64.max then some (TW b) else none) = some (TW b)
  rw [if_pos hb]

theorem toint_any (a : Int) (w : World) :
    Calls Try.prog 42 #[.int .i64 a] w fun e w' => e = .returned (.tuple #[.int .i64 (if tbad (ub a) then 0 else TW (ub a)), .int .i64 (if tbad (ub a) then 10 else 0)]) ∧ w = w' := by
  rcases h : tbad (ub a) with _ | _
  · exact toint_good a _ h (toint_val _ h) w
  · exact toint_bad a h w

end Go.Proofs.Ytceingfjdkpolaa
