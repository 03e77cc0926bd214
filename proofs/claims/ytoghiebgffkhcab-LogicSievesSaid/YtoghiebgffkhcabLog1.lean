/-
  Plain facts: truths with a third one, and with errors; lists of them let a row through or not.
  Conditions: none.
-/
import Derived.Test.YtoghiebgffkhcabRows
namespace Go.Proofs.Ytoghiebgffkhcab

/-- of two errors the one that counts -/
def W2 (a b : Int) : Int := if a = 0 then b else if b = 0 then a else min a b

theorem w2_zz : W2 0 0 = 0 := rfl
theorem w2_zl (b : Int) : W2 0 b = b := by unfold W2; simp
theorem w2_zr (a : Int) : W2 a 0 = a := by unfold W2; split <;> simp_all
theorem w2_comm (a b : Int) : W2 a b = W2 b a := by unfold W2; repeat' split <;> omega
theorem w2_ne {a b : Int} (h : a ≠ 0 ∨ b ≠ 0) : W2 a b ≠ 0 := by unfold W2; repeat' split <;> omega
theorem w2_assoc (a b c : Int) : W2 (W2 a b) c = W2 a (W2 b c) := by
  by_cases ha : a = 0
  · subst ha; rw [w2_zl, w2_zl]
  · by_cases hb : b = 0
    · subst hb; rw [w2_zr, w2_zl]
    · by_cases hc : c = 0
      · subst hc; rw [w2_zr, w2_zr]
      · unfold W2
        rw [if_neg ha, if_neg hb, if_neg hb, if_neg hc, if_neg hc, if_neg ha]
        rw [if_neg (by omega), if_neg (by omega)]
        omega

theorem cases4 (t e : Int) : (t = 0 ∧ e = 0) ∨ (t = 1 ∧ e = 0) ∨ (t ≠ 0 ∧ t ≠ 1 ∧ e = 0) ∨ e ≠ 0 := by omega

def pT (t e : Int) : Int := if e ≠ 0 then 0 else if t = 0 then 0 else if t = 1 then 1 else 2
def nT (t e : Int) : Int := if e ≠ 0 then 0 else if t = 0 then 1 else if t = 1 then 0 else 2
def aE (t e t' e' : Int) : Int := if (t = 0 ∧ e = 0) ∨ (t' = 0 ∧ e' = 0) then 0 else W2 e e'
def aT (t e t' e' : Int) : Int := if (t = 0 ∧ e = 0) ∨ (t' = 0 ∧ e' = 0) then 0 else if e ≠ 0 ∨ e' ≠ 0 then 0 else if t = 1 ∧ t' = 1 then 1 else 2
def oE (t e t' e' : Int) : Int := if (t = 1 ∧ e = 0) ∨ (t' = 1 ∧ e' = 0) then 0 else W2 e e'
def oT (t e t' e' : Int) : Int := if (t = 1 ∧ e = 0) ∨ (t' = 1 ∧ e' = 0) then 1 else if e ≠ 0 ∨ e' ≠ 0 then 0 else if t = 0 ∧ t' = 0 then 0 else 2

/-- a verdict's mark: 0 False, 1 True, 2 Unknown, 3 an error -/
def mk (t e : Int) : Nat := if e ≠ 0 then 3 else if t = 0 then 0 else if t = 1 then 1 else 2
theorem mk_lt (t e : Int) : mk t e < 4 := by
  unfold mk
  by_cases h : e ≠ 0
  · rw [if_pos h]; decide
  · rw [if_neg h]
    by_cases h1 : t = 0
    · rw [if_pos h1]; decide
    · rw [if_neg h1]; split <;> decide

/-! lists of verdicts -/

def vs (n : Nat) (tf ef : Nat → Int) : List (Int × Int) := (List.range n).map fun i => (tf i, ef i)

/-- a verdict keeps a row out, whatever the others are -/
def out (p : Int × Int) : Bool := decide (p.2 = 0 ∧ p.1 ≠ 1)
def unk (p : Int × Int) : Bool := decide (p.2 = 0 ∧ p.1 ≠ 0 ∧ p.1 ≠ 1)
def errs (l : List (Int × Int)) : Int := l.foldl (fun e p => W2 e p.2) 0
def sE (l : List (Int × Int)) : Int := if l.any out then 0 else errs l
def sB (l : List (Int × Int)) : Bool := !l.any out && errs l == 0
/-- all of them put together by 'and', from the first on -/
def all2 (l : List (Int × Int)) : Int × Int := l.foldl (fun a p => (aT a.1 a.2 p.1 p.2, aE a.1 a.2 p.1 p.2)) (1, 0)

theorem vs_succ (n : Nat) (tf ef : Nat → Int) : vs (n + 1) tf ef = vs n tf ef ++ [(tf n, ef n)] := by
  unfold vs; rw [List.range_succ, List.map_append]; rfl
theorem vs_zero (tf ef : Nat → Int) : vs 0 tf ef = [] := rfl
theorem errs_snoc (l : List (Int × Int)) (p : Int × Int) : errs (l ++ [p]) = W2 (errs l) p.2 := by unfold errs; rw [List.foldl_append]; rfl
theorem all2_snoc (l : List (Int × Int)) (p : Int × Int) : all2 (l ++ [p]) = (aT (all2 l).1 (all2 l).2 p.1 p.2, aE (all2 l).1 (all2 l).2 p.1 p.2) := by unfold all2; rw [List.foldl_append]; rfl
theorem any_snoc (f : Int × Int → Bool) (l : List (Int × Int)) (p : Int × Int) : (l ++ [p]).any f = (l.any f || f p) := by simp

theorem errs_perm {l l' : List (Int × Int)} (h : l.Perm l') : errs l = errs l' := by
  unfold errs
  refine h.foldl_eq' ?_ 0
  intro x _ y _ z
  rw [w2_assoc, w2_assoc, w2_comm x.2]
theorem any_perm {l l' : List (Int × Int)} (f : Int × Int → Bool) (h : l.Perm l') : l.any f = l'.any f := by
  rw [Bool.eq_iff_iff, List.any_eq_true, List.any_eq_true]
  exact ⟨fun ⟨x, hx, hf⟩ => ⟨x, h.mem_iff.1 hx, hf⟩, fun ⟨x, hx, hf⟩ => ⟨x, h.mem_iff.2 hx, hf⟩⟩
theorem sE_perm {l l' : List (Int × Int)} (h : l.Perm l') : sE l = sE l' := by unfold sE; rw [errs_perm h, any_perm _ h]
theorem sB_perm {l l' : List (Int × Int)} (h : l.Perm l') : sB l = sB l' := by unfold sB; rw [errs_perm h, any_perm _ h]

/-- what 'all' is, as long as none is unknown -/
def AllIs (l : List (Int × Int)) : Prop :=
    (l.any out = true ∧ all2 l = (0, 0)) ∨ (l.any out = false ∧ errs l = 0 ∧ all2 l = (1, 0)) ∨ (l.any out = false ∧ errs l ≠ 0 ∧ all2 l = (0, errs l))

theorem allis_snoc (l : List (Int × Int)) (p : Int × Int) (h2 : unk p = false) (ih : AllIs l) : AllIs (l ++ [p]) := by
  obtain ⟨t, e⟩ := p
  have h2' : ¬ (e = 0 ∧ t ≠ 0 ∧ t ≠ 1) := by simpa [unk] using h2
  unfold AllIs at *
  rw [any_snoc, errs_snoc, all2_snoc]
  rcases cases4 t e with ⟨rfl, rfl⟩ | ⟨rfl, rfl⟩ | ⟨a, b, rfl⟩ | hz
  · left
    refine ⟨by simp [out], ?_⟩
    simp [aT, aE]
  · have o : out ((1 : Int), (0 : Int)) = false := by decide
    rw [o, Bool.or_false, w2_zr]
    rcases ih with ⟨x, y⟩ | ⟨x, y, z⟩ | ⟨x, y, z⟩
    · exact .inl ⟨x, by rw [y]; decide⟩
    · exact .inr (.inl ⟨x, y, by rw [z]; decide⟩)
    · refine .inr (.inr ⟨x, y, ?_⟩)
      rw [z]
      simp [aT, aE, y, w2_zr]
  · exact absurd ⟨rfl, a, b⟩ h2'
  · have o : out (t, e) = false := by simp [out, hz]
    rw [o, Bool.or_false]
    rcases ih with ⟨x, y⟩ | ⟨x, y, z⟩ | ⟨x, y, z⟩
    · exact .inl ⟨x, by rw [y]; simp [aT, aE]⟩
    · refine .inr (.inr ⟨x, w2_ne (.inr hz), ?_⟩)
      rw [z, y]
      simp [aT, aE, hz]
    · refine .inr (.inr ⟨x, w2_ne (.inr hz), ?_⟩)
      rw [z]
      simp [aT, aE, hz, y]

theorem all2_vs (n : Nat) (tf ef : Nat → Int) (h : ∀ i, i < n → unk (tf i, ef i) = false) : AllIs (vs n tf ef) := by
  induction n with
  | zero => exact .inr (.inl ⟨rfl, rfl, rfl⟩)
  | succ n ih =>
    rw [vs_succ]
    exact allis_snoc _ _ (h n (by omega)) (ih fun i hi => h i (by omega))

theorem unk_out {l : List (Int × Int)} (h : l.any unk = true) : l.any out = true := by
  rw [List.any_eq_true] at h ⊢
  obtain ⟨x, hx, hf⟩ := h
  refine ⟨x, hx, ?_⟩
  simp [unk, out] at hf ⊢
  exact ⟨hf.1, hf.2.2⟩

/-- the sieve by 'all' -/
theorem sieve_all (l : List (Int × Int)) (h : AllIs l) : sB l = ((all2 l).1 == 1 && (all2 l).2 == 0) ∧ sE l = (all2 l).2 := by
  unfold sB sE
  rcases h with ⟨x, y⟩ | ⟨x, y, z⟩ | ⟨x, y, z⟩
  · rw [x, y]; exact ⟨rfl, rfl⟩
  · rw [x, y, z]; exact ⟨rfl, rfl⟩
  · rw [x, z]; simp [y]
theorem sieve_unk (l : List (Int × Int)) (h : l.any unk = true) : sB l = false ∧ sE l = 0 := by
  unfold sB sE; rw [unk_out h]; exact ⟨rfl, rfl⟩

theorem vs_any {f : Int × Int → Bool} {n i : Nat} {tf ef : Nat → Int} (hi : i < n) (h : f (tf i, ef i) = true) : (vs n tf ef).any f = true := by
  rw [List.any_eq_true]
  exact ⟨_, List.mem_map.2 ⟨i, List.mem_range.2 hi, rfl⟩, h⟩

theorem vs_rev (n : Nat) (tf ef : Nat → Int) : (vs n (fun i => tf (n - 1 - i)) (fun i => ef (n - 1 - i))) = (vs n tf ef).reverse := by
  refine List.ext_getElem (by simp [vs]) ?_
  intro i h1 h2
  simp [vs]

theorem vs_cons (n : Nat) (tf ef : Nat → Int) (t e : Int) :
    vs (n + 1) (fun i => if i = 0 then t else tf (i - 1)) (fun i => if i = 0 then e else ef (i - 1)) = (t, e) :: vs n tf ef := by
  unfold vs
  rw [List.range_succ_eq_map, List.map_cons, List.map_map]
  simp only [if_true, List.cons.injEq, true_and]
  apply List.map_congr_left
  intro i _
  simp

theorem errs_cons (p : Int × Int) (l : List (Int × Int)) : errs (p :: l) = W2 p.2 (errs l) := by
  rw [errs_perm (l' := l ++ [p]) (by simpa using (List.perm_append_singleton p l).symm), errs_snoc, w2_comm]

/-- what LogicOrder says of a list and of one verdict more -/
theorem order_more (l : List (Int × Int)) (p : Int × Int) :
    (sB (p :: l) = true → sB l = true) ∧ (sB l = false → sE l = 0 → sB (p :: l) = false ∧ sE (p :: l) = 0) := by
  constructor
  · unfold sB
    rw [errs_cons, List.any_cons]
    intro h
    simp at h ⊢
    obtain ⟨⟨_, h2⟩, h3⟩ := h
    refine ⟨h2, ?_⟩
    by_cases c : errs l = 0
    · exact c
    · exact absurd h3 (w2_ne (.inr c))
  · intro h1 h2
    have ho : l.any out = true := by
      cases c : l.any out with
      | true => rfl
      | false => unfold sB at h1; unfold sE at h2; rw [c] at h1 h2; simp at h1 h2; exact absurd h2 h1
    unfold sB sE
    rw [List.any_cons, ho]
    simp

end Go.Proofs.Ytoghiebgffkhcab
