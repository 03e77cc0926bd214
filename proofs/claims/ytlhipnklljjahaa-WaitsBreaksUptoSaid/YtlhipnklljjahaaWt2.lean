/-
  Cycles among edges, as lists (layer 11): who has one ahead in a finite set lies behind a cycle.
  Conditions: none.
-/
import Derived.Test.YtlhipnklljjahaaWt1
namespace Go.Proofs.Ytlhipnklljjahaa
set_option linter.unusedVariables false
set_option linter.unnecessarySimpa false
set_option linter.unusedSimpArgs false

theorem nodup_len : ∀ (l A : List Int), l.Nodup → (∀ x ∈ l, x ∈ A) → l.length ≤ A.length
  | [], _, _, _ => Nat.zero_le _
  | x :: r, A, h, hs => by
    have h1 := List.nodup_cons.1 h
    have hx := hs x (List.mem_cons_self ..)
    have := nodup_len r (A.erase x) h1.2 fun y hy => (List.mem_erase_of_ne (fun e : y = x => h1.1 (by rw [← e]; exact hy))).2 (hs y (List.mem_cons_of_mem _ hy))
    rw [List.length_erase_of_mem hx] at this
    have := List.length_pos_of_mem hx
    rw [List.length_cons]
    omega
/-- if each has one that waits for it, there is a cycle -/
theorem has_cycle (S : Int → List Int) (A : List Int) (hA : A ≠ []) (h : ∀ u ∈ A, ∃ p ∈ A, u ∈ S p) : ∃ x, Rch S x x := by
  apply Classical.byContradiction
  intro hn
  have key : ∀ n, ∃ u r, (u :: r).length = n + 1 ∧ (∀ x ∈ u :: r, x ∈ A) ∧ (u :: r).Pairwise (Rch S) := by
    intro n
    induction n with
    | zero =>
      cases A with
      | nil => exact absurd rfl hA
      | cons x A => exact ⟨x, [], rfl, fun y hy => by simp at hy; rw [hy]; exact List.mem_cons_self .., by simp⟩
    | succ n ih =>
      obtain ⟨u, r, h1, h2, h3⟩ := ih
      obtain ⟨p, hp, hu⟩ := h u (h2 u (List.mem_cons_self ..))
      refine ⟨p, u :: r, by simp at h1 ⊢; omega, fun y hy => ?_, List.pairwise_cons.2 ⟨fun y hy => ?_, h3⟩⟩
      · rcases List.mem_cons.1 hy with e | e
        · rw [e]; exact hp
        · exact h2 y e
      · rcases List.mem_cons.1 hy with e | e
        · rw [e]; exact .one p u hu
        · exact .step p u y hu ((List.pairwise_cons.1 h3).1 y e)
  obtain ⟨u, r, h1, h2, h3⟩ := key A.length
  have hnd : (u :: r).Nodup := List.Pairwise.imp (fun {a b} (hab : Rch S a b) (e : a = b) => hn ⟨a, by rw [← e] at hab; exact hab⟩) h3
  have := nodup_len _ _ hnd h2
  omega
/-- the last of a way that comes back has one ahead on it -/
theorem Rch.pred {S : Int → List Int} {x y : Int} (h : Rch S x y) : ∃ p, y ∈ S p ∧ (p = x ∨ Rch S x p) := by
  induction h with
  | one x y h0 => exact ⟨x, h0, .inl rfl⟩
  | step x y z h0 _ ih =>
    obtain ⟨p, hp, e⟩ := ih
    refine ⟨p, hp, .inr ?_⟩
    rcases e with e | e
    · rw [e]; exact .one x y h0
    · exact .step x y p h0 e
/-- one that lies on a cycle has one ahead that lies on one -/
theorem cyc_pred {S : Int → List Int} {x : Int} (h : Rch S x x) : ∃ p, x ∈ S p ∧ Rch S p p := by
  obtain ⟨p, hp, e⟩ := h.pred
  refine ⟨p, hp, ?_⟩
  rcases e with e | e
  · rw [e]; exact h
  · exact (Rch.one p x hp).trans e
theorem Rch.start {S : Int → List Int} {x y : Int} (h : Rch S x y) : ∃ z, z ∈ S x := by
  cases h with
  | one _ _ h0 => exact ⟨y, h0⟩
  | step _ z _ h0 _ => exact ⟨z, h0⟩

/-- what is left to look at behind a bound -/
def remX (E : List Eg) (x last : Int) (first : Bool) : List Int := (Sx E x).filter fun y => first || decide (last < y)
theorem remX_first (E : List Eg) (x last : Int) : remX E x last true = Sx E x := by
  unfold remX
  rw [List.filter_eq_self]
  intro y _
  rfl
theorem sorted_filter_gt : ∀ (l : List Int) (y : Int) (r : List Int) (p : Int → Bool), l.Pairwise (· < ·) → l.filter p = y :: r → (∀ a b, a < b → p a = true → p b = true) → l.filter (fun z => decide (y < z)) = r
  | [], y, r, p, _, h, _ => by simp at h
  | x :: l, y, r, p, hs, h, hm => by
    have h1 := List.pairwise_cons.1 hs
    cases hp : p x with
    | true =>
      rw [List.filter_cons_of_pos hp] at h
      injection h with e1 e2
      subst e1
      rw [List.filter_cons_of_neg (by simp), ← e2]
      refine List.filter_congr fun z hz => ?_
      have := h1.1 z hz
      rw [hm x z this hp]
      simpa using this
    | false =>
      rw [List.filter_cons_of_neg (by simp [hp])] at h
      have hy : y ∈ l := by
        have : y ∈ l.filter p := by rw [h]; exact List.mem_cons_self ..
        exact (List.mem_filter.1 this).1
      have := h1.1 y hy
      rw [List.filter_cons_of_neg (by simp; omega)]
      exact sorted_filter_gt l y r p h1.2 h hm
theorem remX_next (E : List Eg) (x last : Int) (first : Bool) (y : Int) (r : List Int) (h : remX E x last first = y :: r) : remX E x y false = r := by
  unfold remX at h ⊢
  have := sorted_filter_gt (Sx E x) y r _ (Sx_sorted x E) h (fun a b hab hp => by
    cases first with
    | true => rfl
    | false =>
      simp only [Bool.false_or, decide_eq_true_eq] at hp ⊢
      omega)
  rw [← this]
  refine List.filter_congr fun z _ => ?_
  simp
theorem mem_remX (E : List Eg) (x last : Int) (first : Bool) (y : Int) : y ∈ remX E x last first ↔ (x, y) ∈ E ∧ (first = true ∨ last < y) := by
  unfold remX
  rw [List.mem_filter, mem_Sx]
  simp
theorem remX_sorted (E : List Eg) (x last : Int) (first : Bool) : (remX E x last first).Pairwise (· < ·) := (Sx_sorted x E).filter _
/-- the least of what is left -/
theorem remX_least (E : List Eg) (x last : Int) (first : Bool) (y : Int) (hy : y ∈ remX E x last first) (hm : ∀ z ∈ remX E x last first, y ≤ z) : ∃ r, remX E x last first = y :: r := by
  have hs := remX_sorted E x last first
  cases h : remX E x last first with
  | nil => rw [h] at hy; simp at hy
  | cons z r =>
    rw [h] at hy hm hs
    have h1 := hm z (List.mem_cons_self ..)
    rcases List.mem_cons.1 hy with e | e
    · exact ⟨r, by rw [e]⟩
    · have := (List.pairwise_cons.1 hs).1 y e
      omega
/-- a victim's edges taken away -/
def dropV (E : List Eg) (v : Int) : List Eg := E.filter fun e => !(e.1 == v) && !(e.2 == v)
theorem filter_lt {α : Type} {p : α → Bool} : ∀ {l : List α} {x : α}, x ∈ l → p x = false → (l.filter p).length < l.length
  | [], x, h, _ => by simp at h
  | y :: l, x, h, hp => by
    rcases List.mem_cons.1 h with e | e
    · subst e
      rw [List.filter_cons_of_neg (by simp [hp]), List.length_cons]
      have := List.length_filter_le p l
      omega
    · have ih := filter_lt e hp
      cases hy : p y with
      | true => rw [List.filter_cons_of_pos hy, List.length_cons, List.length_cons]; omega
      | false => rw [List.filter_cons_of_neg (by simp [hy]), List.length_cons]; omega
/-- each on a cycle waits for one -/
theorem Real.waits {S : Int → List Int} {a : Int} {o : List Int} (h : Real S a o) (x : Int) (hx : x ∈ o) : ∃ y, y ∈ S x := by
  rcases h with ⟨e, _⟩ | ⟨r, z, l, e, e2, ha, hnd, hc⟩
  · rw [e] at hx; simp at hx
  · have hx2 : x ∈ o.reverse := List.mem_reverse.2 hx
    have key : ∀ (m : List Int) (u : Int), Chn S (u :: m) → (∃ y, y ∈ S u) → ∀ v ∈ u :: m, ∃ y, y ∈ S v := by
      intro m
      induction m with
      | nil => intro u _ hu v hv; simp at hv; rw [hv]; exact hu
      | cons w m ih =>
        intro u hc hu v hv
        rcases List.mem_cons.1 hv with e | e
        · rw [e]; exact hu
        · exact ih w hc.2 ⟨u, hc.1⟩ v e
    rw [e2] at hx2 hc
    exact key l z hc ⟨a, ha⟩ x hx2
/-- how much of a search is left at most -/
def unmet (E : List Eg) (met : List Int) : Nat := (E.filter fun e => !met.contains e.2).length
theorem unmet_lt {E : List Eg} {met : List Int} {x y : Int} (h : (x, y) ∈ E) (hy : y ∉ met) : unmet E (y :: met) < unmet E met := by
  unfold unmet
  have e : (E.filter fun e => !(y :: met).contains e.2) = (E.filter fun e => !met.contains e.2).filter fun e => !(e.2 == y) := by
    rw [List.filter_filter]
    refine List.filter_congr fun z _ => ?_
    simp only [List.contains_cons, Bool.not_or]
  rw [e]
  exact filter_lt (x := (x, y)) (List.mem_filter.2 ⟨h, by simpa using hy⟩) (by simp)
/-- the least number with a property -/
theorem least_ex {p : Nat → Prop} : (∃ n, p n) → ∃ n, p n ∧ ∀ m, p m → n ≤ m := by
  rintro ⟨n, hn⟩
  induction n using Nat.strongRecOn with
  | _ n ih =>
    by_cases h : ∃ m, m < n ∧ p m
    · obtain ⟨m, hm, hp⟩ := h
      exact ih m hm hp
    · exact ⟨n, hn, fun m hp => Nat.le_of_not_lt fun hlt => h ⟨m, hlt, hp⟩⟩
open Classical in
noncomputable def lst (p : Nat → Prop) : Nat := if h : ∃ n, p n ∧ ∀ m, p m → n ≤ m then h.choose else 0
theorem lst_spec {p : Nat → Prop} (h : ∃ n, p n) : p (lst p) := by
  unfold lst
  rw [dif_pos (least_ex h)]
  exact (least_ex h).choose_spec.1
theorem lst_le {p : Nat → Prop} {n : Nat} (h : p n) : lst p ≤ n := by
  unfold lst
  rw [dif_pos (least_ex ⟨n, h⟩)]
  exact (least_ex ⟨n, h⟩).choose_spec.2 n h

end Go.Proofs.Ytlhipnklljjahaa
