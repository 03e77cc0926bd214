/-
  A graph in memory: a map from each to those for which it waits (graphOf): a contract over the translation.
  Conditions: the edges lie in memory.
-/
import Derived.Test.YtlhipnklljjahaaWt11
import Derived.Test.YtlhipnklljjahaaMap
namespace Go.Proofs.Ytlhipnklljjahaa
open Go.RowKit Go.Joins Go.ChangeShapes Go.WideShapes
open Go.MapKept
set_option linter.unusedVariables false
set_option linter.unnecessarySimpa false
set_option linter.unusedSimpArgs false

/-- no list, in a map of lists -/
abbrev nilV : Value := .slice none 0 0
/-- a map of lists of whole numbers, all behind B, no two in one block -/
structure GrM (B : Nat) (w : World) (b : Nat) (f : Int → Option Value) (n : Nat) (M : Int → List Int) : Prop where
  mp : IMap (.int .i64) ik w b f n
  no : ∀ x, M x = [] → f x = none
  yes : ∀ x v, f x = some v → QI w B v (M x)
  ex : ∀ x, M x ≠ [] → ∃ v, f x = some v
  dj : ∀ x y v u, x ≠ y → f x = some v → f y = some u → ∀ k, v.ownBlock = some k → u.ownBlock ≠ some k
  bb : B ≤ b
theorem GrM.row {B : Nat} {w : World} {b : Nat} {f : Int → Option Value} {n : Nat} {M : Int → List Int} (h : GrM B w b f n M) (x : Int) : QI w B ((f x).getD nilV) (M x) := by
  by_cases c : M x = []
  · rw [h.no x c, c]; exact QI.nil w B
  · obtain ⟨v, hv⟩ := h.ex x c
    rw [hv]; exact h.yes x v hv
theorem GrM.step {B : Nat} {w w1 : World} {b : Nat} {f : Int → Option Value} {n : Nat} {M : Int → List Int} {F : Bl} (h : GrM B w b f n M) (hf : Frm F w w1) (hb : ¬ F b) (hr : ∀ x v, f x = some v → ∀ k, v.ownBlock = some k → ¬ F k) : GrM B w1 b f n M :=
  ⟨h.mp.step hf hb, h.no, fun x v hv => (h.yes x v hv).step hf (hr x v hv), h.ex, h.dj, h.bb⟩
theorem GrM.below {B : Nat} {w w1 : World} {b : Nat} {f : Int → Option Value} {n : Nat} {M : Int → List Int} (h : GrM B w b f n M) (hb : Below w.heap.size w w1) : GrM B w1 b f n M :=
  h.step (F := fun _ => False) (Frm.of_below hb) (fun h => h) (fun _ _ _ _ _ h => h)
theorem QR.not_map {K : Type} {d : TypeDesc} {enc : K → Value} {w : World} {B b n : Nat} {e : TypeId} {v : Value} {xs : List Value} {f : K → Option Value} (h : QR w B e v xs) (hm : IMap d enc w b f n) : v.ownBlock ≠ some b := by
  rcases h with ⟨rfl, -⟩ | ⟨g, o, cap, cur, rfl, h2, h3, -⟩
  · simp [Value.ownBlock]
  · simp only [Value.ownBlock, ne_eq, Option.some.injEq]
    rintro rfl
    obtain ⟨es, c, h1, -⟩ := hm
    rw [h3] at h1
    injection h1 with h1
    cases h1
theorem grm_made (w : World) (b : Nat) (hb : w.heap.size = b) : GrM b (w.alloc (.map #[] 0)) b (fun _ => none) 0 (Sx []) :=
  ⟨imap_made (.int .i64) ik w b hb, fun _ _ => rfl, (fun _ _ h => by cases h), fun x h => absurd rfl h, (fun _ _ _ _ _ h => by cases h), Nat.le_refl _⟩
/-- one more in one's list -/
theorem GrM.ins {B : Nat} {w w3 w4 w5 : World} {b : Nat} {f : Int → Option Value} {n : Nat} {M M' : Int → List Int} {x y : Int} {v' : Value} (h : GrM B w b f n M) (hB : B ≤ w.heap.size) (h3 : Below w.heap.size w w3)
    (q : QI w4 B v' (M x ++ [y])) (g : w3.grownBy w4 ((f x).getD nilV).ownBlock) (nn : NewO w3 ((f x).getD nilV) v') {n5 : Nat} (m5 : IMap (.int .i64) ik w5 b (fun k => if k = x then some v' else f k) n5) (g5 : w4.grownBy w5 (some b))
    (hM : ∀ z, M' z = if z = x then M x ++ [y] else M z) : GrM B w5 b (fun k => if k = x then some v' else f k) n5 M' ∧ Below B w w5 := by
  have hr := h.row x
  have h3' := h.below h3
  have hr3 := h3'.row x
  have f4 : Frm (fun k => ((f x).getD nilV).ownBlock = some k) w3 w4 := Frm.grown (F := fun k => ((f x).getD nilV).ownBlock = some k) (Frm.refl _ w3) g (fun k hk => .inl hk)
  have f5 : Frm (fun k => k = b) w4 w5 := Frm.grown (Frm.refl _ w4) g5 (fun k hk => by injection hk with hk; exact .inl hk.symm)
  have m4 : IMap (.int .i64) ik w4 b f n := h3'.mp.step f4 (QR.not_map hr3 h3'.mp)
  have hq5 : QI w5 B v' (M x ++ [y]) := q.step f5 (fun k hk e => QR.not_map q m4 (by rw [hk, e]))
  have hold : ∀ z u, z ≠ x → f z = some u → QI w5 B u (M z) := fun z u hz hu => by
    have h1 := h3'.yes z u hu
    have h2 : QI w4 B u (M z) := h1.step f4 (fun k hk hc => by
      cases hfx : f x with
      | none => rw [hfx] at hc; simp [Value.ownBlock] at hc
      | some v0 => rw [hfx] at hc; exact h.dj z x u v0 hz hu hfx k hk hc)
    exact h2.step f5 (fun k hk e => QR.not_map h2 m4 (by rw [hk, e]))
  have hnew : ∀ z u, z ≠ x → f z = some u → ∀ k, v'.ownBlock = some k → u.ownBlock ≠ some k := fun z u hz hu k hk hc => by
    rcases nn k hk with e | e
    · cases hfx : f x with
      | none => rw [hfx] at e; simp [Value.ownBlock] at e
      | some v0 => rw [hfx] at e; exact h.dj z x u v0 hz hu hfx k hc e
    · have := ((h3'.yes z u hu).lt k hc).2; omega
  have hb3 : Below B w w3 := h3.mono hB
  refine ⟨⟨m5, fun z hz => ?_, fun z u hu => ?_, fun z hz => ?_, fun z z' u u' hne hu hu' k hk => ?_, h.bb⟩, ?_⟩
  · rw [hM] at hz
    split at hz
    · simp at hz
    · rename_i c; rw [if_neg c]; exact h.no z hz
  · rw [hM]
    split at hu
    · rename_i c
      injection hu with hu
      subst hu
      rw [if_pos c]
      exact hq5
    · rename_i c
      rw [if_neg c]
      exact hold z u c hu
  · rw [hM] at hz
    split
    · exact ⟨_, rfl⟩
    · rename_i c; rw [if_neg c] at hz; exact h.ex z hz
  · split at hu
    · rename_i c
      injection hu with hu
      subst hu
      rw [if_neg (fun e => hne (c.trans e.symm))] at hu'
      exact hnew z' u' (fun e => hne (c.trans e.symm)) hu' k hk
    · rename_i c
      split at hu'
      · rename_i c'
        injection hu' with hu'
        subst hu'
        intro hc
        exact hnew z u c hu k hc hk
      · exact h.dj z z' u u' hne hu hu' k hk
  · refine (hb3.trans (f4.below (fun k hk => (hr3.lt k hk).1) (Nat.le_trans hB h3.size))).trans (f5.below (fun k hk => by rw [hk]; exact h.bb) ?_)
    exact Nat.le_trans hB (Nat.le_trans h3.size g.size)
theorem GrM.put {B : Nat} {w w3 w4 : World} {b : Nat} {f : Int → Option Value} {n : Nat} {M M' : Int → List Int} {x y : Int} {v' : Value} (h : GrM B w b f n M) (hB : B ≤ w.heap.size) (h3 : Below w.heap.size w w3)
    (q : QI w4 B v' (M x ++ [y])) (g : w3.grownBy w4 ((f x).getD nilV).ownBlock) (nn : NewO w3 ((f x).getD nilV) v') (hM : ∀ z, M' z = if z = x then M x ++ [y] else M z) :
    ∃ w5 f' n5, (Instr.mapUpdate 33 (.map (some b)) (.int .i64 x) v').run Try.prog w4 = .ok () w5 ∧ GrM B w5 b f' n5 M' ∧ Below B w w5 := by
  have h3' := h.below h3
  have f4 : Frm (fun k => ((f x).getD nilV).ownBlock = some k) w3 w4 := Frm.grown (F := fun k => ((f x).getD nilV).ownBlock = some k) (Frm.refl _ w3) g (fun k hk => .inl hk)
  have m4 : IMap (.int .i64) ik w4 b f n := h3'.mp.step f4 (QR.not_map (h3'.row x) h3'.mp)
  obtain ⟨w5, hr, m5, g5, -⟩ := m4.put (P := Try.prog) (t := 33) Try.underlying33 Try.underlying3 ik_key ik_inj x v'
  obtain ⟨a, c⟩ := h.ins hB h3 q g nn m5 g5 hM
  exact ⟨w5, _, _, hr, a, c⟩
theorem GrM.look {B : Nat} {w : World} {b : Nat} {f : Int → Option Value} {n : Nat} {M : Int → List Int} (h : GrM B w b f n M) (x : Int) : (Instr.lookup 33 (.map (some b)) (.int .i64 x) false).run Try.prog w = .ok ((f x).getD nilV) w := by
  have := h.mp.look (P := Try.prog) (t := 33) Try.underlying33 Try.underlying3 ik_key (z := nilV) rfl x false
  simpa using this
theorem nodup_len2 {α : Type} [DecidableEq α] : ∀ (l A : List α), l.Nodup → (∀ x ∈ l, x ∈ A) → l.length ≤ A.length
  | [], _, _, _ => Nat.zero_le _
  | x :: r, A, h, hs => by
    have h1 := List.nodup_cons.1 h
    have hx := hs x (List.mem_cons_self ..)
    have := nodup_len2 r (A.erase x) h1.2 fun y hy => (List.mem_erase_of_ne (fun e : y = x => h1.1 (by rw [← e]; exact hy))).2 (hs y (List.mem_cons_of_mem _ hy))
    rw [List.length_erase_of_mem hx] at this
    have := List.length_pos_of_mem hx
    rw [List.length_cons]
    omega
/-- of a sorted list of edges the last one's goal stands last -/
theorem Sx_snoc {P : List Eg} {x y : Int} (hs : ∀ e ∈ P, ltE e (x, y)) (z : Int) : Sx (P ++ [(x, y)]) z = if z = x then Sx P x ++ [y] else Sx P z := by
  split
  · rename_i c
    subst c
    refine sorted_eq _ _ (Sx_sorted ..) ?_ fun u => ?_
    · rw [List.pairwise_append]
      refine ⟨Sx_sorted .., by simp, fun u hu v hv => ?_⟩
      simp at hv
      subst hv
      have := hs _ ((mem_Sx ..).1 hu)
      unfold ltE at this
      simp at this
      exact this
    · rw [mem_Sx, List.mem_append, List.mem_append, mem_Sx]
      simp
  · rename_i c
    refine sorted_eq _ _ (Sx_sorted ..) (Sx_sorted ..) fun u => ?_
    rw [mem_Sx, mem_Sx, List.mem_append]
    simp [c]
theorem pw_take {C : List Eg} (hs : C.Pairwise ltE) {i : Nat} {e : Eg} (he : C[i]? = some e) : ∀ d ∈ C.take i, ltE d e := by
  intro d hd
  obtain ⟨j, hj⟩ := List.getElem?_of_mem hd
  rw [List.getElem?_take] at hj
  split at hj
  · rename_i hji
    obtain ⟨l1, e1⟩ := List.getElem?_eq_some_iff.1 hj
    obtain ⟨l2, e2⟩ := List.getElem?_eq_some_iff.1 he
    have := List.pairwise_iff_getElem.1 hs j i l1 l2 hji
    rw [e1, e2] at this
    exact this
  · cases hj
theorem nodup_of_lt {C : List Eg} (hs : C.Pairwise ltE) : C.Nodup := hs.imp fun {a b} h e => by subst e; unfold ltE at h; omega

end Go.Proofs.Ytlhipnklljjahaa
