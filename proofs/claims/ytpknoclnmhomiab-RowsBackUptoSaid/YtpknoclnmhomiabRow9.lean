/-
  Rows, plainly: what is read as a row fits its columns, and makes these bytes again.
  Conditions: none.
-/
import Derived.Test.YtpknoclnmhomiabRow8
import Derived.Test.YtpknoclnmhomiabRif
namespace Go.Proofs.Ytpknoclnmhomiab
open Go.RowKit Go.Joins Go.ChangeShapes Go.WideShapes
set_option linter.unusedVariables false

/-- the bytes of values -/
def rvL : List Vt → List Nat
  | [] => []
  | v :: r => rv v.1 v.2.1 v.2.2 ++ rvL r
theorem rvL_snoc (l : List Vt) (v : Vt) : rvL (l ++ [v]) = rvL l ++ rv v.1 v.2.1 v.2.2 := by
  induction l with
  | nil => simp [rvL]
  | cons x l ih => simp only [List.cons_append, rvL, ih, List.append_assoc]
theorem rvs_vlist (kf nf : Nat → Int) (sf : Nat → ByteArray) : ∀ m, rvs kf nf sf m = rvL (vlist kf nf sf m)
  | 0 => rfl
  | m + 1 => by rw [vlist_succ, rvL_snoc, ← rvs_vlist kf nf sf m]; rfl
/-- a value that fits the column i, and its bit -/
def FitAt (tf : Nat → Int) (qf : Nat → Bool) (l : List Nat) (i : Nat) (v : Vt) : Prop :=
  VCheck v.1 v.2.1 v.2.2 = 0 ∧ InI v.2.1 ∧ (v.1 = 0 ∧ qf i = false ∨ v.1 ≠ 0 ∧ v.1 = tf i) ∧ bitN l i = decide (v.1 = 0)
def FitL (tf : Nat → Int) (qf : Nat → Bool) (l : List Nat) : Nat → List Vt → Prop
  | _, [] => True
  | i, v :: r => FitAt tf qf l i v ∧ FitL tf qf l (i + 1) r
theorem FitL.at {tf : Nat → Int} {qf : Nat → Bool} {l : List Nat} : ∀ {i : Nat} {vs : List Vt}, FitL tf qf l i vs → ∀ j, j < vs.length → FitAt tf qf l (i + j) (vs.getD j (0, 0, Em))
  | i, [], _, j, h => absurd h (by simp)
  | i, v :: r, h, 0, _ => h.1
  | i, v :: r, h, j + 1, hj => by
    have := FitL.at h.2 j (by simpa using hj)
    rw [show i + (j + 1) = i + 1 + j by omega]
    exact this
theorem rdecF_back (tf : Nat → Int) (qf : Nat → Bool) (l : List Nat) (hl : ∀ x ∈ l, x < 256) : ∀ r i p vs, p ≤ l.length → rdecF tf qf l r i p = (vs, 0) → vs.length = r ∧ FitL tf qf l i vs ∧ l.drop p = rvL vs
  | 0, i, p, vs, hp, h => by
    unfold rdecF at h
    by_cases c : p < l.length
    · rw [if_pos c] at h
      exact absurd (Prod.mk.inj h).2 (by decide)
    · rw [if_neg c] at h
      obtain ⟨rfl, -⟩ := Prod.mk.inj h
      exact ⟨rfl, trivial, List.drop_eq_nil_of_le (by omega)⟩
  | r + 1, i, p, vs, hp, h => by
    unfold rdecF at h
    by_cases c : bitN l i = true
    · rw [if_pos c] at h
      by_cases q : qf i = true
      · rw [if_pos q] at h
        exact absurd (Prod.mk.inj h).2 (by decide)
      · rw [if_neg q] at h
        unfold rcons at h
        by_cases z : (rdecF tf qf l r (i + 1) p).2 = 0
        · rw [if_pos z] at h
          obtain ⟨rfl, -⟩ := Prod.mk.inj h
          obtain ⟨h1, h2, h3⟩ := rdecF_back tf qf l hl r (i + 1) p _ hp (Prod.ext rfl z)
          refine ⟨by rw [List.length_cons, h1], ⟨⟨vck_num (by decide) (by decide) rfl, in00, .inl ⟨rfl, by simpa using q⟩, by rw [c]; rfl⟩, h2⟩, h3⟩
        · rw [if_neg z] at h
          exact absurd (Prod.mk.inj h).2 z
    · rw [if_neg c] at h
      by_cases o : (rone (tf i) l p).1 = 0
      · rw [if_pos o] at h
        unfold rcons at h
        by_cases z : (rdecF tf qf l r (i + 1) (rone (tf i) l p).2.2).2 = 0
        · rw [if_pos z] at h
          obtain ⟨rfl, -⟩ := Prod.mk.inj h
          obtain ⟨o1, o2, o3, o4, o5, o6⟩ := rone_back (tf i) l p (rone (tf i) l p).2.2 (rone (tf i) l p).2.1 hl (Prod.ext o rfl)
          obtain ⟨h1, h2, h3⟩ := rdecF_back tf qf l hl r (i + 1) _ _ o1 (Prod.ext rfl z)
          refine ⟨by rw [List.length_cons, h1], ⟨⟨o4, o5, .inr ⟨by rw [o2]; exact o3, o2⟩, ?_⟩, h2⟩, by rw [o6, h3]; rfl⟩
          have hb : bitN l i = false := by simpa using c
          rw [hb]
          have : ¬ (rone (tf i) l p).2.1.1 = 0 := by rw [o2]; exact o3
          simp [this]
        · rw [if_neg z] at h
          exact absurd (Prod.mk.inj h).2 z
      · rw [if_neg o] at h
        exact absurd (Prod.mk.inj h).2 o
theorem firstNZ_all {c : Nat → Int} : ∀ {i n : Nat}, (∀ k, i ≤ k → k < i + n → c k = 0) → firstNZ c 0 i n = 0
  | _, 0, _ => rfl
  | i, n + 1, h => by
    unfold firstNZ
    rw [if_pos (h i (Nat.le_refl _) (by omega))]
    exact firstNZ_all (fun k h1 h2 => h k (by omega) (by omega))
/-- P6.4, plainly -/
theorem rdec_back (m : Nat) (tf : Nat → Int) (qf : Nat → Bool) (l : List Nat) (vs : List Vt) (hl : ∀ x ∈ l, x < 256) (h : rdec m tf qf l = (vs, 0)) :
    vs.length = m ∧ (∀ i, i < m → VCheck (kF vs i) (nF vs i) (sF vs i) = 0 ∧ InI (nF vs i)) ∧ fitV m m tf qf (kF vs) (nF vs) (sF vs) = 0 ∧ rowB (kF vs) (nF vs) (sF vs) m = l := by
  unfold rdec at h
  by_cases c : l.length < (m + 7) / 8
  · rw [if_pos c] at h
    exact absurd (Prod.mk.inj h).2 (by decide)
  rw [if_neg c] at h
  by_cases a : (List.range (8 * ((m + 7) / 8))).any (fun i => decide (m ≤ i) && bitN l i) = true
  · rw [if_pos a] at h
    exact absurd (Prod.mk.inj h).2 (by decide)
  rw [if_neg a] at h
  obtain ⟨h1, h2, h3⟩ := rdecF_back tf qf l hl m 0 ((m + 7) / 8) vs (by omega) h
  have hat : ∀ i, i < m → FitAt tf qf l i (vs.getD i (0, 0, Em)) := fun i hi => by
    have := h2.at i (by omega)
    rwa [Nat.zero_add] at this
  refine ⟨h1, fun i hi => ⟨(hat i hi).1, (hat i hi).2.1⟩, ?_, ?_⟩
  · unfold fitV
    rw [if_pos rfl]
    refine firstNZ_all (fun k _ hk => ?_)
    obtain ⟨f1, f2, f3, f4⟩ := hat k (by omega)
    have f1' : VCheck (kF vs k) (nF vs k) (sF vs k) = 0 := f1
    unfold fitStep
    rw [if_pos f1']
    rcases f3 with ⟨g1, g2⟩ | ⟨g1, g2⟩
    · have g1' : kF vs k = 0 := g1
      rw [if_pos g1', if_neg (by rw [g2]; decide)]
    · have g1' : ¬ kF vs k = 0 := g1
      have g2' : kF vs k = tf k := g2
      rw [if_neg g1', if_pos g2']
  · unfold rowB
    have hv : rvs (kF vs) (nF vs) (sF vs) m = rvL vs := by
      rw [rvs_vlist, ← h1, vlist_kF]
    rw [hv, ← h3, rbits_back (kF vs) m l hl _ (by omega) (fun i hi => ?_)]
    · exact List.take_append_drop _ _
    · by_cases hm : i < m
      · have := (hat i hm).2.2.2
        rw [this]
        have e : (vs.getD i (0, 0, Em)).1 = kF vs i := rfl
        rw [e]
        simp [hm]
      · have hb : bitN l i = false := by
          have hn : ¬ (decide (m ≤ i) && bitN l i) = true := fun e => a (List.any_eq_true.2 ⟨i, List.mem_range.2 hi, e⟩)
          simpa [Nat.not_lt.1 hm] using hn
        rw [hb]
        simp [hm]

end Go.Proofs.Ytpknoclnmhomiab
