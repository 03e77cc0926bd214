/-
  A row of edges copied and sorted: contracts over the translation.
  Conditions: the edges lie in memory.
-/
import Derived.Test.YtlhipnklljjahaaWt8
namespace Go.Proofs.Ytlhipnklljjahaa
open Go.RowKit Go.Joins Go.ChangeShapes Go.WideShapes
set_option linter.unusedVariables false
set_option linter.unnecessarySimpa false
set_option linter.unusedSimpArgs false

/-- edges in memory that may be written -/
structure EdW (w : World) (g off : Nat) (E : List Eg) : Prop where
  eg : IsEg w g off E
  fr : ∀ j, j < E.length * 2 → w.frozen? ⟨g, off + j, none⟩ = false
  lt : g < w.heap.size
theorem EdW.frm {F : Bl} {w w' : World} {g off : Nat} {E : List Eg} (h : EdW w g off E) (hf : Frm F w w') (hg : ¬ F g) : EdW w' g off E :=
  ⟨h.eg.frm hf (fun _ => hg), fun j hj => (hf.frozen h.lt hg _).trans (h.fr j hj), Nat.lt_of_lt_of_le h.lt hf.size⟩
theorem EdW.below {w w' : World} {g off : Nat} {E : List Eg} (h : EdW w g off E) (hb : Below w.heap.size w w') : EdW w' g off E := h.frm (F := fun _ => False) (Frm.of_below hb) (fun h => h)
theorem EdW.holds {w : World} {g off : Nat} {E : List Eg} (h : EdW w g off E) : Go.Sort.HoldsK encE 2 w g off E.toArray := by
  intro t ht
  have ht' : t < E.length * 2 := by simpa using ht
  have hE : E.toArray.size = E.length := by simp
  refine ⟨?_, h.fr t ht'⟩
  rw [Go.Sort.get_flatK _ _ _ t (by rw [hE]; exact ht')]
  have hi : t / 2 < E.length := by omega
  obtain ⟨⟨x, y⟩, hx⟩ : ∃ e, E[t / 2]? = some e := ⟨_, List.getElem?_eq_getElem hi⟩
  have hg : E.toArray[t / 2]! = (x, y) := by
    rw [getElem!_pos _ _ (by simpa using hi)]
    rw [List.getElem?_eq_getElem hi] at hx
    simpa using hx
  rw [hg]
  have h0 := h.eg.c0 _ x y hx
  have h1 := h.eg.c1 _ x y hx
  rcases Nat.mod_two_eq_zero_or_one t with e | e
  · rw [e]
    have : off + t / 2 * 2 = off + t := by omega
    rw [this] at h0
    exact h0
  · rw [e]
    have : off + t / 2 * 2 + 1 = off + t := by omega
    rw [this] at h1
    exact h1
theorem EdW.of_holds {w : World} {g off : Nat} {E : List Eg} (h : Go.Sort.HoldsK encE 2 w g off E.toArray) (hg : g < w.heap.size) : EdW w g off E := by
  have hE : E.toArray.size = E.length := by simp
  have key : ∀ (i : Nat) (x y : Int), E[i]? = some (x, y) → E.toArray[i]! = (x, y) := by
    intro i x y hx
    have hi := (List.getElem?_eq_some_iff.1 hx).1
    rw [getElem!_pos _ _ (by simpa using hi)]
    rw [List.getElem?_eq_getElem hi] at hx
    simpa using hx
  refine ⟨⟨fun _ => hg, fun i x y hx => ?_, fun i x y hx => ?_⟩, fun j hj => (h j (by simpa using hj)).2, hg⟩
  · have hi := (List.getElem?_eq_some_iff.1 hx).1
    have := (h (i * 2) (by simp; omega)).1
    rw [Go.Sort.get_flatK _ _ _ _ (by rw [hE]; omega), show i * 2 / 2 = i by omega, show i * 2 % 2 = 0 by omega, key i x y hx] at this
    exact this
  · have hi := (List.getElem?_eq_some_iff.1 hx).1
    have := (h (i * 2 + 1) (by simp; omega)).1
    rw [Go.Sort.get_flatK _ _ _ _ (by rw [hE]; omega), show (i * 2 + 1) / 2 = i by omega, show (i * 2 + 1) % 2 = 1 by omega, key i x y hx] at this
    exact this
theorem frm_sort {α : Type} [Inhabited α] (enc : α → List Value) (k : Nat) (w : World) (g off m : Nat) (d : Array α) (os : Array Obj) : Frm (fun k => k = g) w (sortWorldK enc k w g off m d os) := by
  refine ⟨rfl, rfl, rfl, ?_, fun j hj hne => ?_⟩
  · exact size_sortWorldK_c enc k w g off m d os
  · unfold sortWorldK
    rw [Go.Sort.heap_grow_old _ _ (by simpa [Go.Sort.putRowK, Go.Sort.putRow, Go.Sort.mapBlock, Go.Sort.ahead] using hj)]
    simp only [Go.Sort.putRowK, Go.Sort.putRow, Go.Sort.mapBlock, Go.Sort.ahead, Array.getElem?_modify]
    rw [if_neg (fun e => hne e.symm)]

theorem ltOf_iff (x y : Eg) : ltOf cfE x y = true ↔ ltE x y := by
  unfold ltOf
  rw [decide_eq_true_iff]
  exact cfE_neg x y
theorem swoE : Go.Sort.SWO (ltOf cfE) where
  irrefl x := by rw [Bool.eq_false_iff, ne_eq, ltOf_iff]; unfold ltE; omega
  trans x y z h1 h2 := by rw [ltOf_iff] at *; unfold ltE at *; omega
  ntrans x y z h1 h2 := by rw [Bool.eq_false_iff, ne_eq, ltOf_iff] at *; unfold ltE at *; omega
/-- sorted, equals may stand side by side -/
def leE (x y : Eg) : Prop := ltE x y ∨ x = y
theorem leE_iff (x y : Eg) : leE x y ↔ ¬ ltE y x := by
  unfold leE ltE
  constructor
  · rintro (h | rfl)
    · omega
    · omega
  · intro h
    by_cases c : x.1 < y.1 ∨ (x.1 = y.1 ∧ x.2 < y.2)
    · exact .inl c
    · right
      have h1 : x.1 = y.1 := by omega
      have h2 : x.2 = y.2 := by omega
      exact Prod.ext h1 h2
set_option maxHeartbeats 1000000 in
theorem sort_any (w : World) (g off cap : Nat) (E : List Eg) (h : EdW w g off E) (hm : E.length ≤ 4294967296) :
    Calls Try.prog 24 #[.slice (some ⟨g, off, none⟩) E.length cap, .func (.func 25) #[] #[]] w fun e w' => e = .returned (.tuple #[]) ∧ ∃ E', E'.Perm E ∧ E'.Pairwise leE ∧ EdW w' g off E' ∧ Frm (fun k => k = g) w w' := by
  have eg : ∀ args w, (callFunc 25 args).run Try.prog w = .ok (.enter 25 args) w := enters_of Try.func25 (by kernel_rfl) rfl
  have hE : E.toArray.size = E.length := by simp
  have hcon := AnyQ.slices_SortFunc_total sfLays 2 Try.isAgg27 Try.sizeOf27 encE (fun _ => rfl) (fun x v hv => by simp [encE] at hv; rcases hv with rfl | rfl <;> rfl) cfE swoE 25 #[] g off cap E.toArray w eg (fun _ _ _ _ x y => order_any x y _) h.holds h.lt (by rw [hE]; omega)
    (fun x y h1 h2 => by
      rw [Bool.eq_false_iff, ne_eq, ltOf_iff] at h1 h2
      unfold ltE at h1 h2
      exact Prod.ext (by omega) (by omega))
  rw [hE] at hcon
  refine hcon.mono ?_
  rintro e w' ⟨rfl, n, os, rfl⟩
  obtain ⟨E', hE'⟩ : ∃ E', E.mergeSort (fun x y => !(ltOf cfE) y x) = E' := ⟨_, rfl⟩
  have hl : E.toArray.toList = E := by simp
  rw [hl, hE']
  have hp : E'.Perm E := by rw [← hE']; exact List.mergeSort_perm _ _
  refine ⟨rfl, E', hp, ?_, ?_, frm_sort encE 2 w g off n _ os⟩
  · rw [← hE']
    have := List.pairwise_mergeSort (le := fun x y => !(ltOf cfE) y x) (fun a b c h1 h2 => by
      simp only [Bool.not_eq_true', Bool.eq_false_iff, ne_eq, ltOf_iff] at h1 h2 ⊢
      unfold ltE at *; omega) (fun a b => by
      by_cases c : ltE a b
      · have : ¬ ltE b a := by unfold ltE at *; omega
        have h1 : ltOf cfE b a = false := by rw [Bool.eq_false_iff, ne_eq, ltOf_iff]; exact this
        simp [h1]
      · have h1 : ltOf cfE a b = false := by rw [Bool.eq_false_iff, ne_eq, ltOf_iff]; exact c
        simp [h1]) E
    refine this.imp fun {a b} h => ?_
    rw [leE_iff, ← ltOf_iff]
    simpa using h
  · refine EdW.of_holds (holdsK_sortWorldK_c encE 2 w g off E.toArray E'.toArray n os h.holds h.lt (by simpa using hp.length_eq)) ?_
    exact Nat.lt_of_lt_of_le h.lt (size_sortWorldK_c encE 2 w g off n _ os)

end Go.Proofs.Ytlhipnklljjahaa
