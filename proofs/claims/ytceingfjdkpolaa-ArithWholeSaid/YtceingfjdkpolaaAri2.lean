/-
  Contracts over the translation: package arith's operators on whole numbers.
  Conditions: none.
-/
import Derived.Test.YtceingfjdkpolaaAri1
import Derived.Test.YtceingfjdkpolaaReal
namespace Go.Proofs.Ytceingfjdkpolaa
open Go.RowKit
set_option linter.unusedVariables false

def P2 (f : FuncId) (a b : Int) (r : Int × Int) : Prop := ∀ w, Calls Try.prog f #[.int .i64 a, .int .i64 b] w fun e w' => e = .returned (.tuple #[.int .i64 r.1, .int .i64 r.2]) ∧ w = w'

theorem aadd_any (a b : Int) (ha : InI a) (hb : InI b) : P2 49 a b (chk (a + b)) := by
  intro w
  unfold InI at ha hb
  obtain ⟨a1, a2⟩ := ha
  obtain ⟨b1, b2⟩ := hb
  have h : (InI (a + b) ∧ 0 < b) ∨ (InI (a + b) ∧ b ≤ 0) ∨ (9223372036854775807 < a + b) ∨ (a + b < -9223372036854775808) := by unfold InI; omega
  rcases h with ⟨h1, h2⟩ | ⟨h1, h2⟩ | h1 | h1
  · rw [chk_in h1]
    obtain ⟨h3, h4⟩ := h1
    have h5 : a < a + b := by omega
    go_enter Try.func49, Try.ntmps49
    go_wp2
    go_ret2
    exact ⟨rfl, rfl⟩
  · rw [chk_in h1]
    obtain ⟨h3, h4⟩ := h1
    have h5 : decide (a < a + b) = false := by simp; omega
    have h6 : decide (0 < b) = false := by simp; omega
    go_enter Try.func49, Try.ntmps49
    go_wp2
    go_ret2
    exact ⟨rfl, rfl⟩
  · rw [chk_out (by unfold InI; omega)]
    obtain ⟨c, hc⟩ : ∃ c, wrap64 (a + b) = c := ⟨_, rfl⟩
    have h5 : decide (a < c) = false := by rw [← hc, w64]; simp; omega
    have h6 : 0 < b := by omega
    clear h1
    go_enter Try.func49, Try.ntmps49
    go_wp2
    go_ret2
    exact ⟨rfl, rfl⟩
  · rw [chk_out (by unfold InI; omega)]
    obtain ⟨c, hc⟩ : ∃ c, wrap64 (a + b) = c := ⟨_, rfl⟩
    have h5 : a < c := by rw [← hc, w64]; omega
    have h6 : decide (0 < b) = false := by simp; omega
    clear h1
    go_enter Try.func49, Try.ntmps49
    go_wp2
    go_ret2
    exact ⟨rfl, rfl⟩

theorem asub_any (a b : Int) (ha : InI a) (hb : InI b) : P2 50 a b (chk (a - b)) := by
  intro w
  unfold InI at ha hb
  obtain ⟨a1, a2⟩ := ha
  obtain ⟨b1, b2⟩ := hb
  have h : (InI (a - b) ∧ 0 < b) ∨ (InI (a - b) ∧ b ≤ 0) ∨ (9223372036854775807 < a - b) ∨ (a - b < -9223372036854775808) := by unfold InI; omega
  rcases h with ⟨h1, h2⟩ | ⟨h1, h2⟩ | h1 | h1
  · rw [chk_in h1]
    obtain ⟨h3, h4⟩ := h1
    have h5 : a - b < a := by omega
    go_enter Try.func50, Try.ntmps50
    go_wp2
    go_ret2
    exact ⟨rfl, rfl⟩
  · rw [chk_in h1]
    obtain ⟨h3, h4⟩ := h1
    have h5 : decide (a - b < a) = false := by simp; omega
    have h6 : decide (0 < b) = false := by simp; omega
    go_enter Try.func50, Try.ntmps50
    go_wp2
    go_ret2
    exact ⟨rfl, rfl⟩
  · rw [chk_out (by unfold InI; omega)]
    obtain ⟨c, hc⟩ : ∃ c, wrap64 (a - b) = c := ⟨_, rfl⟩
    have h5 : c < a := by rw [← hc, w64]; omega
    have h6 : decide (0 < b) = false := by simp; omega
    clear h1
    go_enter Try.func50, Try.ntmps50
    go_wp2
    go_ret2
    exact ⟨rfl, rfl⟩
  · rw [chk_out (by unfold InI; omega)]
    obtain ⟨c, hc⟩ : ∃ c, wrap64 (a - b) = c := ⟨_, rfl⟩
    have h5 : decide (c < a) = false := by rw [← hc, w64]; simp; omega
    have h6 : 0 < b := by omega
    clear h1
    go_enter Try.func50, Try.ntmps50
    go_wp2
    go_ret2
    exact ⟨rfl, rfl⟩

theorem amul_any (a b : Int) (ha : InI a) (hb : InI b) : P2 51 a b (chk (a * b)) := by
  intro w
  by_cases h0 : b = 0
  · subst h0
    rw [show chk (a * 0) = (0, 0) by rw [Int.mul_zero]; rfl]
    go_enter Try.func51, Try.ntmps51
    go_wp2
    go_ret2
    exact ⟨rfl, rfl⟩
  · have b0 : (b == 0) = false := by simpa using h0
    by_cases hx : b = -1 ∧ a = -9223372036854775808
    · obtain ⟨rfl, rfl⟩ := hx
      rw [show chk (-9223372036854775808 * -1) = (0, 31) by rfl]
      have e : wrap64 9223372036854775808 = -9223372036854775808 := by rw [w64]; rfl
      go_enter Try.func51, Try.ntmps51
      go_wp2
      go_ret2
      exact ⟨rfl, rfl⟩
    · have hm := mul_back ha hb h0 hx
      obtain ⟨p, hp⟩ : ∃ p, wrap64 (a * b) = p := ⟨_, rfl⟩
      rw [hp] at hm
      obtain ⟨q, hq⟩ : ∃ q, wrap64 (p.tdiv b) = q := ⟨_, rfl⟩
      rw [hq] at hm
      unfold InI at ha hb
      obtain ⟨a1, a2⟩ := ha
      obtain ⟨b1, b2⟩ := hb
      by_cases hi : InI (a * b)
      · have e1 : q = a := hm.2 hi
        have e2 : p = a * b := by rw [← hp, w64_in hi]
        rw [chk_in hi]
        subst e1
        have E2 := Lib.hid e2
        have n1 : (q == -9223372036854775808 && b == -1) = false := by
          rw [Bool.and_eq_false_iff]
          by_cases c : b = -1
          · left; simpa using fun e => hx ⟨c, e⟩
          · right; simpa using c
        have HB : (b == -1) = false ∨ (b = -1 ∧ (q == -9223372036854775808) = false) := by
          by_cases c : b = -1
          · right; exact ⟨c, by simpa using fun e => hx ⟨c, e⟩⟩
          · left; simpa using c
        clear hm hi hx e2 n1
        rcases HB with c | ⟨rfl, c⟩
        · go_enter Try.func51, Try.ntmps51
          go_wp2
          go_ret2
          exact ⟨ret_i2 (hp.trans E2.out) rfl, rfl⟩
        · have c' : ¬ q = -9223372036854775808 := by simpa using c
          have c2 : -9223372036854775807 ≤ q := by omega
          clear hp hq c c' E2
          go_enter Try.func51, Try.ntmps51
          go_wp2
          go_ret2
          exact ⟨ret_i2 (by omega) rfl, rfl⟩
      · have e1 : (q != a) = true := by simpa using fun e => hi (hm.1 e)
        rw [chk_out hi]
        clear hm hi hx
        go_enter Try.func51, Try.ntmps51
        go_wp2
        go_ret2
        exact ⟨rfl, rfl⟩

def divV (a b : Int) : Int × Int := if b = 0 then (0, 32) else chk (a.tdiv b)
def modV (a b : Int) : Int × Int := if b = 0 then (0, 32) else (a.tmod b, 0)

theorem adiv_any (a b : Int) (ha : InI a) (hb : InI b) : P2 52 a b (divV a b) := by
  intro w
  by_cases h0 : b = 0
  · subst h0
    rw [show divV a 0 = (0, 32) from rfl]
    go_enter Try.func52, Try.ntmps52
    go_wp2
    go_ret2
    exact ⟨rfl, rfl⟩
  · have b0 : (b == 0) = false := by simpa using h0
    rw [show divV a b = chk (a.tdiv b) by unfold divV; exact if_neg h0]
    by_cases hx : b = -1 ∧ a = -9223372036854775808
    · obtain ⟨rfl, rfl⟩ := hx
      rw [show chk ((-9223372036854775808 : Int).tdiv (-1)) = (0, 31) by rfl]
      go_enter Try.func52, Try.ntmps52
      go_wp2
      go_ret2
      exact ⟨rfl, rfl⟩
    · have hd := div_in ha h0 hx
      rw [chk_in hd]
      obtain ⟨q, hq⟩ : ∃ q, a.tdiv b = q := ⟨_, rfl⟩
      have hw : wrap64 (a.tdiv b) = q := by rw [w64_in hd, hq]
      have HQ := Lib.hid hq
      unfold InI at ha hb
      obtain ⟨a1, a2⟩ := ha
      obtain ⟨b1, b2⟩ := hb
      by_cases hm : a = -9223372036854775808
      · have c : (b == -1) = false := by simpa using fun e => hx ⟨e, hm⟩
        subst hm
        clear hx hd hq
        go_enter Try.func52, Try.ntmps52
        go_wp2
        go_ret2
        exact ⟨ret_i2 (by rw [← Int.neg_tdiv]; exact hw.trans HQ.out.symm) rfl, rfl⟩
      · have c : (a == -9223372036854775808) = false := by simpa using hm
        clear hx hd hq hm
        go_enter Try.func52, Try.ntmps52
        go_wp2
        go_ret2
        exact ⟨ret_i2 (hw.trans HQ.out.symm) rfl, rfl⟩

theorem arest_any (a b : Int) (ha : InI a) (hb : InI b) : P2 53 a b (modV a b) := by
  intro w
  by_cases h0 : b = 0
  · subst h0
    rw [show modV a 0 = (0, 32) from rfl]
    go_enter Try.func53, Try.ntmps53
    go_wp2
    go_ret2
    exact ⟨rfl, rfl⟩
  · have b0 : (b == 0) = false := by simpa using h0
    rw [show modV a b = (a.tmod b, 0) by unfold modV; exact if_neg h0]
    obtain ⟨hi, -⟩ := tmod_in (b := b) ha h0
    obtain ⟨q, hq⟩ : ∃ q, a.tmod b = q := ⟨_, rfl⟩
    have hw : wrap64 (a.tmod b) = q := by rw [w64_in hi, hq]
    unfold InI at ha hb
    obtain ⟨a1, a2⟩ := ha
    obtain ⟨b1, b2⟩ := hb
    clear hi
    rw [hq]
    go_enter Try.func53, Try.ntmps53
    go_wp2
    go_ret2
    exact ⟨rfl, rfl⟩

end Go.Proofs.Ytceingfjdkpolaa
