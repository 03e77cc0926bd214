/-
  Plain facts: the orders of numbers, texts and values are each one order.
  Conditions: none.
-/
import Derived.Test.YteeglmfjogoggabVal5
namespace Go.Proofs.Yteeglmfjogoggab
open Go.RowKit

def Chain (x y z : Int) : Prop :=
    (x = -1 ∧ y = -1 ∧ z = -1) ∨ (x = -1 ∧ y = 0 ∧ z = -1) ∨ (x = 0 ∧ y = -1 ∧ z = -1) ∨ (x = 0 ∧ y = 0 ∧ z = 0) ∨ (x = 1 ∧ y = 1 ∧ z = 1) ∨ (x = 1 ∧ y = 0 ∧ z = 1) ∨ (x = 0 ∧ y = 1 ∧ z = 1) ∨
    (x = -1 ∧ y = 1 ∧ z = -1) ∨ (x = -1 ∧ y = 1 ∧ z = 0) ∨ (x = -1 ∧ y = 1 ∧ z = 1) ∨ (x = 1 ∧ y = -1 ∧ z = -1) ∨ (x = 1 ∧ y = -1 ∧ z = 0) ∨ (x = 1 ∧ y = -1 ∧ z = 1)

instance (x y z : Int) : Decidable (Chain x y z) := by unfold Chain; infer_instance

def L (p q x : Int) : Int := if p < q then -1 else if q < p then 1 else x

def Sign (x : Int) : Prop := x = -1 ∨ x = 0 ∨ x = 1

theorem L_cases (p q x : Int) : (p < q ∧ L p q x = -1) ∨ (q < p ∧ L p q x = 1) ∨ (p = q ∧ L p q x = x) := by
  unfold L
  by_cases c : p < q
  · rw [if_pos c]; exact .inl ⟨c, rfl⟩
  · rw [if_neg c]
    by_cases d : q < p
    · rw [if_pos d]; exact .inr (.inl ⟨d, rfl⟩)
    · rw [if_neg d]; exact .inr (.inr ⟨by omega, rfl⟩)

theorem chain_lex (p q r x y z : Int) (hx : Sign x) (hy : Sign y) (hz : Sign z) (h : Chain x y z) : Chain (L p q x) (L q r y) (L p r z) := by
  rcases L_cases p q x with ⟨c1, e1⟩ | ⟨c1, e1⟩ | ⟨c1, e1⟩ <;> rcases L_cases q r y with ⟨c2, e2⟩ | ⟨c2, e2⟩ | ⟨c2, e2⟩ <;> rcases L_cases p r z with ⟨c3, e3⟩ | ⟨c3, e3⟩ | ⟨c3, e3⟩ <;>
    first | (exfalso; omega) | (rw [e1, e2, e3]; first | exact h | (unfold Sign at hx hy hz; rcases hx with rfl | rfl | rfl <;> rcases hy with rfl | rfl | rfl <;> rcases hz with rfl | rfl | rfl <;> decide))

theorem sign_L (p q x : Int) (h : Sign x) : Sign (L p q x) := by
  rcases L_cases p q x with ⟨_, e⟩ | ⟨_, e⟩ | ⟨_, e⟩ <;> rw [e]
  · exact .inl rfl
  · exact .inr (.inr rfl)
  · exact h

theorem chain_int (p q r : Int) : Chain (L p q 0) (L q r 0) (L p r 0) := chain_lex p q r 0 0 0 (.inr (.inl rfl)) (.inr (.inl rfl)) (.inr (.inl rfl)) (by decide)

theorem cmp_L (a b : UInt8) (xs ys : List UInt8) : Lib.compareBytes (a :: xs) (b :: ys) = L a.toNat b.toNat (Lib.compareBytes xs ys) := by
  unfold L
  rw [Lib.compareBytes]
  simp only [UInt8.lt_iff_toNat_lt, Int.ofNat_lt]

theorem sign_cmp (a b : List UInt8) : Sign (Lib.compareBytes a b) := cmp_vals a b

theorem chain_bytes : ∀ a b c : List UInt8, Chain (Lib.compareBytes a b) (Lib.compareBytes b c) (Lib.compareBytes a c)
  | [], [], [] => by decide
  | [], [], _ :: _ => by simp [Lib.compareBytes, Chain]
  | [], _ :: _, [] => by simp [Lib.compareBytes, Chain]
  | _ :: _, [], [] => by simp [Lib.compareBytes, Chain]
  | [], b :: ys, c :: zs => by
    have := sign_cmp (b :: ys) (c :: zs)
    generalize Lib.compareBytes (b :: ys) (c :: zs) = y at *
    rcases this with rfl | rfl | rfl <;> simp [Lib.compareBytes, Chain]
  | a :: xs, [], c :: zs => by
    have := sign_cmp (a :: xs) (c :: zs)
    generalize Lib.compareBytes (a :: xs) (c :: zs) = y at *
    rcases this with rfl | rfl | rfl <;> simp [Lib.compareBytes, Chain]
  | a :: xs, b :: ys, [] => by
    have := sign_cmp (a :: xs) (b :: ys)
    generalize Lib.compareBytes (a :: xs) (b :: ys) = y at *
    rcases this with rfl | rfl | rfl <;> simp [Lib.compareBytes, Chain]
  | a :: xs, b :: ys, c :: zs => by
    rw [cmp_L, cmp_L, cmp_L]
    exact chain_lex _ _ _ _ _ _ (sign_cmp _ _) (sign_cmp _ _) (sign_cmp _ _) (chain_bytes xs ys zs)

theorem vcmp_L (k n : Int) (s : ByteArray) (k' n' : Int) (s' : ByteArray) : VCmp k n s k' n' s' = L k k' (if k = 0 then 0 else if k = 3 then L (PPlace n) (PPlace n') 0 else if k = 4 then SCmp s s' else L n n' 0) := rfl

theorem vcmp_sign (k n : Int) (s : ByteArray) (k' n' : Int) (s' : ByteArray) : Sign (VCmp k n s k' n' s') := vcmp_vals k n s k' n' s'

theorem chainV (k n : Int) (s : ByteArray) (k' n' : Int) (s' : ByteArray) (k2 n2 : Int) (s2 : ByteArray) : Chain (VCmp k n s k' n' s') (VCmp k' n' s' k2 n2 s2) (VCmp k n s k2 n2 s2) := by
  by_cases h1 : k = k'
  · subst h1
    by_cases h2 : k = k2
    · subst h2
      rw [vcmp_L, vcmp_L, vcmp_L]
      have e : ∀ x, L k k x = x := fun x => by unfold L; rw [if_neg (by omega), if_neg (by omega)]
      rw [e, e, e]
      by_cases c0 : k = 0
      · rw [if_pos c0, if_pos c0, if_pos c0]; decide
      · rw [if_neg c0, if_neg c0, if_neg c0]
        by_cases c3 : k = 3
        · rw [if_pos c3, if_pos c3, if_pos c3]; exact chain_int _ _ _
        · rw [if_neg c3, if_neg c3, if_neg c3]
          by_cases c4 : k = 4
          · rw [if_pos c4, if_pos c4, if_pos c4]; exact chain_bytes _ _ _
          · rw [if_neg c4, if_neg c4, if_neg c4]; exact chain_int _ _ _
    · have hs := vcmp_sign k n s k n' s'
      generalize VCmp k n s k n' s' = x at *
      rw [vcmp_L, vcmp_L]
      unfold L
      rcases hs with rfl | rfl | rfl <;> rcases Int.lt_or_gt_of_ne h2 with c | c <;> first | (rw [if_pos c, if_pos c]; decide) | (rw [if_neg (by omega), if_pos (by omega), if_neg (by omega), if_pos (by omega)]; decide)
  · by_cases h2 : k' = k2
    · subst h2
      have hs := vcmp_sign k' n' s' k' n2 s2
      generalize VCmp k' n' s' k' n2 s2 = x at *
      rw [vcmp_L, vcmp_L]
      unfold L
      rcases hs with rfl | rfl | rfl <;> rcases Int.lt_or_gt_of_ne h1 with c | c <;> first | (rw [if_pos c, if_pos c]; decide) | (rw [if_neg (by omega), if_pos (by omega), if_neg (by omega), if_pos (by omega)]; decide)
    · by_cases h3 : k = k2
      · subst h3
        have hs := vcmp_sign k n s k n2 s2
        generalize VCmp k n s k n2 s2 = x at *
        rw [vcmp_L, vcmp_L]
        unfold L
        rcases hs with rfl | rfl | rfl <;> rcases Int.lt_or_gt_of_ne h1 with c | c <;> first | (rw [if_pos c, if_neg (by omega), if_pos (by omega)]; decide) | (rw [if_neg (by omega), if_pos (by omega), if_pos (by omega)]; decide)
      · have : ∀ p q x y, p ≠ q → L p q x = L p q y := by
          intro p q x y h; unfold L
          rcases Int.lt_or_gt_of_ne h with c | c
          · rw [if_pos c, if_pos c]
          · rw [if_neg (by omega), if_pos (by omega), if_neg (by omega), if_pos (by omega)]
        rw [vcmp_L, vcmp_L, vcmp_L, this _ _ _ 0 h1, this _ _ _ 0 h2, this _ _ _ 0 h3]
        exact chain_int _ _ _

end Go.Proofs.Yteeglmfjogoggab
