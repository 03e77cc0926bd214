/-
  Contracts over the translation: verdicts as they are turned about and put together, by package logic and by the document's answer.
  Conditions: none.
-/
import Derived.Test.YtoghiebgffkhcabLog1
import Derived.Test.YtoghiebgffkhcabKp
import Derived.WalkKit
import Derived.WalkSpells
import Derived.WalkLawsBesides
import Derived.Lib.Hide
import Derived.Lib.SmallJoins
import Derived.Laws.StructEq
import Derived.Deep.QuietTactic
import Derived.BigQuiet
import Derived.Below
import Derived.Deep.RegionHeld3
import Derived.Deep.RegionWith
import Derived.Deep.DeepCutAuto
namespace Go.Proofs.Ytoghiebgffkhcab
open Go.RowKit Go.Joins Go.ChangeShapes Go.WideShapes
set_option linter.unusedVariables false

theorem ret_i {k : IntKind} {a b : Int} (h : a = b) : Ending.returned (.int k a) = .returned (.int k b) := by rw [h]
def InI (a : Int) : Prop := -9223372036854775808 ≤ a ∧ a ≤ 9223372036854775807

/-- a verdict: its truth and its error -/
def Dv (t e : Int) : Value := .agg #[.int .i64 t, .int .i64 e]
theorem ret_d {a b c d : Int} (h : a = c) (g : b = d) : Ending.returned (.agg #[.int .i64 a, .int .i64 b]) = .returned (.agg #[.int .i64 c, .int .i64 d]) := by rw [h, g]

theorem cellsD : Try.prog.cellsOf 24 = 2 := by kernel_rfl

theorem open_ver {H : Type} {enc : TypeId × Value → H} {W : World} {base b0 : Nat} {spare : Nat → Bool} {held : Bool} {r : Reach} {v : Value} {d : DataW H} {p : List MemPlace}
    (o : Value.okWide Try.prog W r b0 24 v) (h : DataW.Trod enc Try.prog W base spare held 24 v d p) :
    ∃ t e, v = Dv t e ∧ InI t ∧ InI e := by
  obtain ⟨c0, c1, y0, y1, m, rfl, -, -, h0, h1⟩ := open_agg2 Try.underlying24 (by kernel_rfl) cellsD o h
  obtain ⟨t, e0, -, wt⟩ := DataW.trod_int Try.underlying3 h0
  obtain ⟨e, e1, -, we⟩ := DataW.trod_int Try.underlying22 h1
  simp only [List.cons.injEq, and_true] at e0 e1
  subst e0 e1
  exact ⟨t, e, rfl, bounds_i64 wt, bounds_i64 we⟩

theorem eqD (t e t' e' : Int) (w : World) :
    (Op.equalIn 10000 24 (.agg #[.int .i64 t, .int .i64 e]) (.agg #[.int .i64 t', .int .i64 e'])).run Try.prog w = .ok (t == t' && e == e') w := by
  have u2 := Try.underlying22
  have u3 := Try.underlying3
  have hS : Try.prog.underlying 24 = some (.struct (Try.prog.fieldsOf 24)) := by kernel_rfl
  have hp : Try.prog.stoodInHeld 24 = false := by kernel_rfl
  rw [show (10000 : Nat) = 9999 + 1 from rfl, run_equalIn_agg w 9999 24 _ _ hS hp]
  simp only [Program.fieldsOf, Try.underlying24]
  go_simp
  by_cases h1 : t = t' <;> by_cases h2 : e = e' <;> simp [h1, h2]

attribute [go_sem] eqD

theorem worse_any (a b : Int) (w : World) :
    Calls Try.prog 14 #[.int .i64 a, .int .i64 b] w fun e w' => e = .returned (.int .i64 (W2 a b)) ∧ w = w' := by
  unfold W2
  by_cases ha : a = 0
  · subst ha
    go_enter Try.func14, Try.ntmps14
    go_wp2
    go_ret
    exact ⟨rfl, rfl⟩
  · have a0 : (a == 0) = false := by simpa using ha
    rw [if_neg ha]
    by_cases hb : b = 0
    · subst hb
      clear ha
      go_enter Try.func14, Try.ntmps14
      go_wp2
      go_ret
      exact ⟨rfl, rfl⟩
    · have b0 : (b == 0) = false := by simpa using hb
      rw [if_neg hb]
      clear ha hb
      go_enter Try.func14, Try.ntmps14
      go_wp2
      all_goals
        go_ret
        exact ⟨ret_i (by first | rfl | omega), rfl⟩

theorem refworse_any (a b : Int) (w : World) :
    Calls Try.prog 15 #[.int .i64 a, .int .i64 b] w fun e w' => e = .returned (.int .i64 (W2 a b)) ∧ w = w' := by
  by_cases ha : a = 0
  · subst ha
    rw [w2_zl]
    go_enter Try.func15, Try.ntmps15
    go_wp2
    go_ret
    exact ⟨rfl, rfl⟩
  · have a0 : (a == 0) = false := by simpa using ha
    by_cases hb : b = 0
    · subst hb
      rw [w2_zr]
      clear ha
      go_enter Try.func15, Try.ntmps15
      go_wp2
      go_ret
      exact ⟨rfl, rfl⟩
    · have b0 : (b != 0) = true := by simpa using hb
      by_cases c : b < a
      · rw [show W2 a b = b by unfold W2; rw [if_neg ha, if_neg hb]; omega]
        clear ha hb
        go_enter Try.func15, Try.ntmps15
        go_wp2
        go_ret
        exact ⟨rfl, rfl⟩
      · rw [show W2 a b = a by unfold W2; rw [if_neg ha, if_neg hb]; omega]
        clear ha hb
        go_enter Try.func15, Try.ntmps15
        go_wp2
        go_ret
        exact ⟨rfl, rfl⟩

/-- a verdict's four kinds, with the tests' facts -/
theorem kinds (t e : Int) : (t = 0 ∧ e = 0) ∨ (t = 1 ∧ e = 0) ∨ (((t == 0) = false ∧ (t == 1) = false ∧ (t != 0) = true ∧ (t != 1) = true) ∧ e = 0) ∨ ((e == 0) = false ∧ (e != 0) = true) := by
  rcases cases4 t e with h | h | ⟨a, b, c⟩ | h
  · exact .inl h
  · exact .inr (.inl h)
  · exact .inr (.inr (.inl ⟨⟨by simpa using a, by simpa using b, by simpa using a, by simpa using b⟩, c⟩))
  · exact .inr (.inr (.inr ⟨by simpa using h, by simpa using h⟩))

theorem pT_e {t e : Int} (h : (e == 0) = false) : pT t e = 0 := by unfold pT; rw [if_pos (by simpa using h)]
theorem pT_u {t : Int} (h : (t == 0) = false) (g : (t == 1) = false) : pT t 0 = 2 := by unfold pT; rw [if_neg (by decide), if_neg (by simpa using h), if_neg (by simpa using g)]
theorem nT_e {t e : Int} (h : (e == 0) = false) : nT t e = 0 := by unfold nT; rw [if_pos (by simpa using h)]
theorem nT_u {t : Int} (h : (t == 0) = false) (g : (t == 1) = false) : nT t 0 = 2 := by unfold nT; rw [if_neg (by decide), if_neg (by simpa using h), if_neg (by simpa using g)]
theorem mk_e {t e : Int} (h : (e == 0) = false) : mk t e = 3 := by unfold mk; rw [if_pos (by simpa using h)]
theorem mk_u {t : Int} (h : (t == 0) = false) (g : (t == 1) = false) : mk t 0 = 2 := by unfold mk; rw [if_neg (by decide), if_neg (by simpa using h), if_neg (by simpa using g)]

theorem two_below (w : World) (a b : Obj) : Below w.heap.size w ((w.alloc a).alloc b) :=
  ((Below.refl _ _).alloc (Nat.le_refl _) _).alloc (by simp) _

theorem plain_any (t e : Int) (w : World) :
    Calls Try.prog 19 #[Dv t e] w fun x w' => x = .returned (Dv (pT t e) e) ∧ Below w.heap.size w w' := by
  unfold Dv
  rcases kinds t e with ⟨rfl, rfl⟩ | ⟨rfl, rfl⟩ | ⟨⟨h1, h2, h3, h4⟩, rfl⟩ | ⟨h1, h2⟩
  · rw [show pT 0 0 = 0 from rfl]
    go_enter Try.func19, Try.ntmps19
    go_wp2
    exact bodyPost_ret (v := .agg #[.int .i64 0, .int .i64 0]) (by simp [results, Try.results19, go_sem]) rfl ⟨rfl, two_below _ _ _⟩
  · rw [show pT 1 0 = 1 from rfl]
    go_enter Try.func19, Try.ntmps19
    go_wp2
    exact bodyPost_ret (v := .agg #[.int .i64 1, .int .i64 0]) (by simp [results, Try.results19, go_sem]) rfl ⟨rfl, two_below _ _ _⟩
  · rw [pT_u h1 h2]
    go_enter Try.func19, Try.ntmps19
    go_wp2
    exact bodyPost_ret (v := .agg #[.int .i64 2, .int .i64 0]) (by simp [results, Try.results19, go_sem]) rfl ⟨rfl, two_below _ _ _⟩
  · rw [pT_e h1]
    go_enter Try.func19, Try.ntmps19
    go_wp2
    exact bodyPost_ret (v := .agg #[.int .i64 0, .int .i64 e]) (by simp [results, Try.results19, go_sem]) rfl ⟨rfl, two_below _ _ _⟩

theorem mark_any (t e : Int) (w : World) :
    Calls Try.prog 21 #[Dv t e] w fun x w' => x = .returned (.int .i64 (mk t e)) ∧ Below w.heap.size w w' := by
  unfold Dv
  rcases kinds t e with ⟨rfl, rfl⟩ | ⟨rfl, rfl⟩ | ⟨⟨h1, h2, h3, h4⟩, rfl⟩ | ⟨h1, h2⟩
  · rw [show mk 0 0 = 0 from rfl]
    go_enter Try.func21, Try.ntmps21
    go_wp2
    go_ret
    exact ⟨rfl, (Below.refl _ _).alloc (Nat.le_refl _) _⟩
  · rw [show mk 1 0 = 1 from rfl]
    go_enter Try.func21, Try.ntmps21
    go_wp2
    go_ret
    exact ⟨rfl, (Below.refl _ _).alloc (Nat.le_refl _) _⟩
  · rw [mk_u h1 h2]
    go_enter Try.func21, Try.ntmps21
    go_wp2
    go_ret
    exact ⟨rfl, (Below.refl _ _).alloc (Nat.le_refl _) _⟩
  · rw [mk_e h1]
    go_enter Try.func21, Try.ntmps21
    go_wp2
    go_ret
    exact ⟨rfl, (Below.refl _ _).alloc (Nat.le_refl _) _⟩

end Go.Proofs.Ytoghiebgffkhcab
