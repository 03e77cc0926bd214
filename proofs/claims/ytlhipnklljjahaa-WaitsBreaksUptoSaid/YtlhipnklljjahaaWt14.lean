/-
  Taking out, again and again, one for whom none waits: as lists.
  Conditions: none.
-/
import Derived.Test.YtlhipnklljjahaaWt2
namespace Go.Proofs.Ytlhipnklljjahaa
set_option linter.unusedVariables false
set_option linter.unnecessarySimpa false
set_option linter.unusedSimpArgs false

/-- how many of some wait for one -/
def cntS (S : Int → List Int) (D : List Int) (x : Int) : Nat := (D.filter fun p => (S p).contains x).length
def wgt (S : Int → List Int) (D : List Int) : Nat := (D.map fun p => (S p).length).sum
theorem cntS_nil (S : Int → List Int) (x : Int) : cntS S [] x = 0 := rfl
theorem cntS_snoc (S : Int → List Int) (D : List Int) (k x : Int) : cntS S (D ++ [k]) x = cntS S D x + if x ∈ S k then 1 else 0 := by
  unfold cntS
  rw [List.filter_append, List.length_append]
  congr 1
  by_cases c : x ∈ S k <;> simp [List.filter, c]
theorem cntS_le (S : Int → List Int) (D : List Int) (x : Int) : cntS S D x ≤ D.length := List.length_filter_le _ _
theorem cntS_pos {S : Int → List Int} {D : List Int} {x : Int} : 0 < cntS S D x ↔ ∃ p ∈ D, x ∈ S p := by
  unfold cntS
  rw [List.length_pos_iff_exists_mem]
  constructor
  · rintro ⟨p, hp⟩
    have := List.mem_filter.1 hp
    exact ⟨p, this.1, by simpa using this.2⟩
  · rintro ⟨p, h1, h2⟩
    exact ⟨p, List.mem_filter.2 ⟨h1, by simpa using h2⟩⟩
theorem cntS_erase {S : Int → List Int} {D : List Int} {k : Int} (hk : k ∈ D) (x : Int) : cntS S D x = cntS S (D.erase k) x + if x ∈ S k then 1 else 0 := by
  have hp : D.Perm (k :: D.erase k) := List.perm_cons_erase hk
  unfold cntS
  rw [(hp.filter _).length_eq]
  by_cases c : x ∈ S k
  · rw [List.filter_cons_of_pos (by simpa using c), if_pos c]; rfl
  · rw [List.filter_cons_of_neg (by simpa using c), if_neg c]; rfl
theorem wgt_erase {S : Int → List Int} {D : List Int} {k : Int} (hk : k ∈ D) : wgt S D = wgt S (D.erase k) + (S k).length := by
  have hp : D.Perm (k :: D.erase k) := List.perm_cons_erase hk
  unfold wgt
  rw [(hp.map _).sum_nat]
  simp
  omega
theorem wgt_le {S : Int → List Int} {N : Nat} (h : ∀ x, (S x).length ≤ N) : ∀ D : List Int, wgt S D ≤ D.length * N
  | [] => by simp [wgt]
  | k :: D => by
    have ih := wgt_le h D
    have := h k
    unfold wgt at ih ⊢
    simp only [List.map_cons, List.sum_cons, List.length_cons, Nat.add_mul, Nat.one_mul]
    omega

structure PkI (S M : Int → List Int) (D L : List Int) (A : Int → Nat) : Prop where
  nd : D.Nodup
  md : ∀ k, M k ≠ [] ↔ k ∈ D
  ms : ∀ k ∈ D, M k = S k
  ca : ∀ x, A x = cntS S D x
  l0 : ∀ k ∈ L, A k = 0
  l1 : ∀ k ∈ D, A k = 0 → k ∈ L
  cy : ∀ x, Rch S x x → x ∈ D
def msK (S : Int → List Int) (D L : List Int) : Nat := 2 * wgt S D + L.length
structure PkJ (S M : Int → List Int) (D L0 : List Int) (at' : Int) (i : Nat) (L : List Int) (A : Int → Nat) : Prop where
  ca : ∀ x, A x + (if x ∈ (M at').take i then 1 else 0) = cntS S D x
  l0 : ∀ k ∈ L, A k = 0
  l1 : ∀ k ∈ D, k ≠ at' → A k = 0 → k ∈ L
  ln : L.length ≤ L0.length + i
def setA (A : Int → Nat) (x : Int) (n : Nat) : Int → Nat := fun z => if z = x then n else A z
theorem PkI.round {S M : Int → List Int} {D L0 : List Int} {at' : Int} {A : Int → Nat} (h : PkI S M D (L0 ++ [at']) A) : PkJ S M D L0 at' 0 L0 A :=
  ⟨fun x => by simpa using h.ca x, fun k hk => h.l0 k (List.mem_append.2 (.inl hk)), fun k hk hne hz => by
    rcases List.mem_append.1 (h.l1 k hk hz) with g | g
    · exact g
    · simp at g; exact absurd g hne, by simp⟩
theorem PkJ.step {S M : Int → List Int} {D L0 L : List Int} {at' : Int} {i : Nat} {A A0 : Int → Nat} {L1 : List Int} (h0 : PkI S M D L1 A0) (hnd : (M at').Nodup) (h : PkJ S M D L0 at' i L A) {y : Int} (hy : (M at')[i]? = some y) :
    0 < A y ∧ (A y - 1 ≠ 0 → PkJ S M D L0 at' (i + 1) L (setA A y (A y - 1))) ∧ (A y - 1 = 0 → PkJ S M D L0 at' (i + 1) (L ++ [y]) (setA A y (A y - 1))) := by
  have hmem : y ∈ M at' := List.mem_of_getElem? hy
  have hat : at' ∈ D := (h0.md at').1 (fun e => by rw [e] at hmem; simp at hmem)
  have hyS : y ∈ S at' := by rw [← h0.ms at' hat]; exact hmem
  have hnt : y ∉ (M at').take i := by
    intro hc
    obtain ⟨j, hj⟩ := List.getElem?_of_mem hc
    rw [List.getElem?_take] at hj
    split at hj
    · rename_i hji
      have := (List.getElem?_inj (List.getElem?_eq_some_iff.1 hj).1 hnd).1 (hj.trans hy.symm)
      omega
    · cases hj
  have hpos : 0 < A y := by
    have := h.ca y
    rw [if_neg hnt] at this
    have h2 : 0 < cntS S D y := cntS_pos.2 ⟨at', hat, hyS⟩
    omega
  have hT : (M at').take (i + 1) = (M at').take i ++ [y] := by rw [List.take_add_one, hy]; rfl
  have hca : ∀ x, setA A y (A y - 1) x + (if x ∈ (M at').take (i + 1) then 1 else 0) = cntS S D x := by
    intro x
    rw [hT]
    unfold setA
    by_cases c : x = y
    · subst c
      rw [if_pos rfl, if_pos (by simp)]
      have := h.ca x
      rw [if_neg hnt] at this
      omega
    · rw [if_neg c]
      have := h.ca x
      have e : (x ∈ (M at').take i ++ [y]) ↔ x ∈ (M at').take i := by simp [c]
      simp only [e]
      exact this
  have hl0 : ∀ k ∈ L, setA A y (A y - 1) k = 0 := by
    intro k hk
    unfold setA
    split
    · rename_i c
      have := h.l0 k hk
      rw [c] at this
      omega
    · exact h.l0 k hk
  refine ⟨hpos, fun hne => ⟨hca, hl0, fun k hk hka hz => ?_, by have := h.ln; omega⟩, fun he => ⟨hca, fun k hk => ?_, fun k hk hka hz => ?_, by have := h.ln; simp; omega⟩⟩
  · unfold setA at hz
    split at hz
    · exact absurd hz hne
    · exact h.l1 k hk hka hz
  · rcases List.mem_append.1 hk with g | g
    · exact hl0 k g
    · simp at g; subst g; unfold setA; rw [if_pos rfl]; exact he
  · unfold setA at hz
    split at hz
    · rename_i c; exact List.mem_append.2 (.inr (by simp [c]))
    · exact List.mem_append.2 (.inl (h.l1 k hk hka hz))
theorem PkJ.done {S M M' : Int → List Int} {D L0 L : List Int} {at' : Int} {A A0 : Int → Nat} (h0 : PkI S M D (L0 ++ [at']) A0) (h : PkJ S M D L0 at' (M at').length L A) (hM : ∀ k, M' k = if k = at' then [] else M k) :
    PkI S M' (D.erase at') L A ∧ msK S (D.erase at') L < msK S D (L0 ++ [at']) := by
  have hca := h.ca
  simp only [List.take_length] at hca
  have hz : A0 at' = 0 := h0.l0 at' (by simp)
  by_cases hat : at' ∈ D
  · have hMS := h0.ms at' hat
    refine ⟨⟨h0.nd.erase _, fun k => ?_, fun k hk => ?_, fun x => ?_, h.l0, fun k hk hz => ?_, fun x hx => ?_⟩, ?_⟩
    · rw [hM, h0.nd.mem_erase_iff]
      by_cases c : k = at'
      · simp [c]
      · rw [if_neg c, h0.md]; simp [c]
    · have := (h0.nd.mem_erase_iff).1 hk
      rw [hM, if_neg this.1]
      exact h0.ms k this.2
    · have h1 := hca x
      have h2 := cntS_erase (S := S) hat x
      rw [hMS] at h1
      omega
    · have := (h0.nd.mem_erase_iff).1 hk
      exact h.l1 k this.2 this.1 hz
    · refine (h0.nd.mem_erase_iff).2 ⟨fun e => ?_, h0.cy x hx⟩
      subst e
      obtain ⟨p, hp, hpp⟩ := cyc_pred hx
      have : 0 < cntS S D x := cntS_pos.2 ⟨p, h0.cy p hpp, hp⟩
      rw [← h0.ca, hz] at this
      omega
    · have h1 := wgt_erase (S := S) hat
      have h2 := h.ln
      rw [hMS] at h2
      unfold msK
      rw [h1]
      simp
      omega
  · have hMe : M at' = [] := by
      apply Classical.byContradiction
      intro hc
      exact hat ((h0.md at').1 hc)
    have hD : D.erase at' = D := List.erase_of_not_mem hat
    rw [hD]
    refine ⟨⟨h0.nd, fun k => ?_, fun k hk => ?_, fun x => ?_, h.l0, fun k hk hz => h.l1 k hk (fun e => hat (by rw [← e]; exact hk)) hz, h0.cy⟩, ?_⟩
    · rw [hM]
      by_cases c : k = at'
      · rw [if_pos c, c]; simp [hat]
      · rw [if_neg c]; exact h0.md k
    · rw [hM, if_neg (fun e => hat (by rw [← e]; exact hk))]
      exact h0.ms k hk
    · have := hca x
      rw [hMe] at this
      simpa using this
    · have h2 := h.ln
      rw [hMe] at h2
      unfold msK
      simp at h2 ⊢
      omega
/-- when none is left to be taken out -/
theorem PkI.done {S M : Int → List Int} {D : List Int} {A : Int → Nat} (h : PkI S M D [] A) : D ≠ [] ↔ ∃ x, Rch S x x := by
  constructor
  · intro hD
    refine has_cycle S D hD fun u hu => ?_
    have h1 : A u ≠ 0 := fun hz => by have := h.l1 u hu hz; simp at this
    rw [h.ca] at h1
    exact cntS_pos.1 (Nat.pos_of_ne_zero h1)
  · rintro ⟨x, hx⟩ e
    have := h.cy x hx
    rw [e] at this
    simp at this

end Go.Proofs.Ytlhipnklljjahaa
