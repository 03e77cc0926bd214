/-
  Rows of a call's own side by side; the document's search for a cycle (haspref11.Cycle): a contract over the translation.
  Conditions: the edges lie in memory.
-/
import Derived.Test.YtlhipnklljjahaaWt4
import Derived.Deep.DeepCutAuto
import Derived.Deep.QuietTactic
namespace Go.Proofs.Ytlhipnklljjahaa
open Go.RowKit Go.Joins Go.ChangeShapes Go.WideShapes
set_option linter.unusedVariables false
set_option linter.unnecessarySimpa false
set_option linter.unusedSimpArgs false

/-- rows of the call's own, no two in one block -/
def Rs (W w : World) (L : List (TypeId × Value × List Value)) : Prop :=
  Below W.heap.size W w ∧ (∀ (i : Nat) r, L[i]? = some r → QR w W.heap.size r.1 r.2.1 r.2.2) ∧ ∀ (i j : Nat) r s, i ≠ j → L[i]? = some r → L[j]? = some s → ∀ k, r.2.1.ownBlock = some k → s.2.1.ownBlock ≠ some k
theorem Rs.start (W : World) : Rs W W [] := ⟨Below.refl _ _, fun i r h => by simp at h, fun i j r s _ h => by simp at h⟩
theorem Rs.bel {W w : World} {L : List (TypeId × Value × List Value)} (h : Rs W w L) : Below W.heap.size W w := h.1
theorem Rs.row {W w : World} {L : List (TypeId × Value × List Value)} (h : Rs W w L) (i : Nat) {e : TypeId} {v : Value} {xs : List Value} (hi : L[i]? = some (e, v, xs)) : QR w W.heap.size e v xs := h.2.1 i _ hi
theorem Rs.below {W w w1 : World} {L : List (TypeId × Value × List Value)} (h : Rs W w L) (hb : Below w.heap.size w w1) : Rs W w1 L :=
  ⟨h.1.trans (hb.mono h.1.size), fun i r hr => (h.2.1 i r hr).below hb, h.2.2⟩
theorem Rs.frm {W w w1 : World} {L : List (TypeId × Value × List Value)} {F : Bl} (h : Rs W w L) (hf : Frm F w w1) (hF : ∀ k, F k → W.heap.size ≤ k) (hd : ∀ (i : Nat) r, L[i]? = some r → ∀ k, r.2.1.ownBlock = some k → ¬ F k) : Rs W w1 L :=
  ⟨h.1.trans (hf.below hF h.1.size), fun i r hr => (h.2.1 i r hr).step hf (hd i r hr), h.2.2⟩
theorem Rs.upd {W w w1 : World} {L : List (TypeId × Value × List Value)} (h : Rs W w L) (i : Nat) {e : TypeId} {v v' : Value} {xs xs' : List Value} (hi : L[i]? = some (e, v, xs)) (hf : Frm (fun k => v.ownBlock = some k) w w1) (hq : QR w1 W.heap.size e v' xs') (hn : NewO w v v') :
    Rs W w1 (L.set i (e, v', xs')) := by
  obtain ⟨h1, h2, h3⟩ := h
  have hv := h2 i _ hi
  have hil := (List.getElem?_eq_some_iff.1 hi).1
  refine ⟨h1.trans (hf.below (fun k hk => (hv.lt k hk).1) h1.size), fun j r hr => ?_, fun j l r s hjl hr hs k hk => ?_⟩
  · rw [List.getElem?_set] at hr
    by_cases c : i = j
    · subst c
      rw [if_pos rfl, if_pos hil] at hr
      injection hr with hr
      subst hr
      exact hq
    · rw [if_neg c] at hr
      exact (h2 j r hr).step hf (fun k hk hc => h3 j i _ _ (fun e => c e.symm) hr hi k hk hc)
  · rw [List.getElem?_set] at hr hs
    by_cases c : i = j
    · subst c
      rw [if_pos rfl, if_pos hil] at hr
      injection hr with hr
      subst hr
      rw [if_neg hjl] at hs
      intro hc
      rcases hn k hk with g | g
      · exact h3 i l _ _ hjl hi hs k g hc
      · have := ((h2 l s hs).lt k hc).2; omega
    · rw [if_neg c] at hr
      by_cases d : i = l
      · subst d
        rw [if_pos rfl, if_pos hil] at hs
        injection hs with hs
        subst hs
        intro hc
        rcases hn k hc with g | g
        · exact h3 j i _ _ hjl hr hi k hk g
        · have := ((h2 j r hr).lt k hk).2; omega
      · rw [if_neg d] at hs
        exact h3 j l r s hjl hr hs k hk
/-- a new row beside them -/
theorem Rs.add {W w w1 : World} {L : List (TypeId × Value × List Value)} (h : Rs W w L) (hb : Below w.heap.size w w1) {e : TypeId} {v : Value} {xs : List Value} (hq : QR w1 w.heap.size e v xs) : Rs W w1 (L ++ [(e, v, xs)]) := by
  have hr := h.below hb
  have hs : ∀ j r, (L ++ [(e, v, xs)])[j]? = some r → L[j]? = some r ∨ (j = L.length ∧ r = (e, v, xs)) := by
    intro j r hj
    by_cases c : j < L.length
    · rw [List.getElem?_append_left c] at hj; exact .inl hj
    · rw [List.getElem?_append_right (by omega)] at hj
      have hl := (List.getElem?_eq_some_iff.1 hj).1
      simp at hl
      have : j - L.length = 0 := by omega
      rw [this] at hj
      simp at hj
      exact .inr ⟨by omega, hj.symm⟩
  refine ⟨hr.1, fun j r hj => ?_, fun j l r s hjl hj hl k hk hc => ?_⟩
  · rcases hs j r hj with g | ⟨-, rfl⟩
    · exact hr.2.1 j r g
    · exact hq.le h.1.size
  · rcases hs j r hj with g | ⟨e1, rfl⟩
    · rcases hs l s hl with g2 | ⟨e2, rfl⟩
      · exact hr.2.2 j l r s hjl g g2 k hk hc
      · have := (hq.lt k hc).1
        have := ((h.2.1 j r g).lt k hk).2
        omega
    · rcases hs l s hl with g2 | ⟨e2, rfl⟩
      · have := (hq.lt k hk).1
        have := ((h.2.1 l s g2).lt k hc).2
        omega
      · omega
/-- one of them lengthened -/
theorem Rs.grown {W w w1 : World} {L : List (TypeId × Value × List Value)} (h : Rs W w L) (i : Nat) {e : TypeId} {v v' : Value} {xs xs' : List Value} (hi : L[i]? = some (e, v, xs)) (hg : w.grownBy w1 v.ownBlock) (hq : QR w1 W.heap.size e v' xs') (hn : NewO w v v') : Rs W w1 (L.set i (e, v', xs')) :=
  h.upd i hi (Frm.grown (F := fun k => v.ownBlock = some k) (Frm.refl _ w) hg (fun k hk => .inl hk)) hq hn
/-- one of them cut -/
theorem Rs.cut {W w : World} {L : List (TypeId × Value × List Value)} (h : Rs W w L) (i : Nat) {e : TypeId} {a : Option Addr} {n cap : Nat} {xs : List Value} (hi : L[i]? = some (e, .slice a n cap, xs)) (m : Nat) (hm : m ≤ xs.length) : Rs W w (L.set i (e, .slice a m cap, xs.take m)) :=
  h.upd i hi (Frm.refl _ w) ((h.row i hi).cut m hm) (fun k hk => .inl (by cases a <;> simpa [Value.ownBlock] using hk))
/-- an element of one of them written -/
theorem Rs.put {W w : World} {L : List (TypeId × Value × List Value)} (h : Rs W w L) (i : Nat) {e : TypeId} {g o n cap : Nat} {xs : List Value} (hi : L[i]? = some (e, .slice (some ⟨g, o, none⟩) n cap, xs)) (j : Nat) (x : Value) (hj : j < xs.length) : Rs W (w.setCell ⟨g, o + j, none⟩ x) (L.set i (e, .slice (some ⟨g, o, none⟩) n cap, xs.set j x)) :=
  h.upd i hi (Frm.set1 (F := fun k => (Value.slice (some ⟨g, o, none⟩) n cap).ownBlock = some k) w (g := g) rfl (o + j) x) ((h.row i hi).set j x hj) (fun k hk => .inl hk)
theorem Rs.sz {W w : World} {L : List (TypeId × Value × List Value)} (h : Rs W w L) : W.heap.size ≤ w.heap.size := h.1.size

/-- what append onto one of them asks and leaves -/
theorem Rs.pushI {W w : World} {L : List (TypeId × Value × List Value)} (h : Rs W w L) (i : Nat) {v : Value} {l : List Int} (hi : L[i]? = some (3, v, icells l)) (y : Int) :
    QI (w.alloc (.cells #[.int .i64 y] 3)) W.heap.size v l ∧ W.heap.size ≤ (w.alloc (.cells #[.int .i64 y] 3)).heap.size ∧ (w.alloc (.cells #[.int .i64 y] 3)).cell? ⟨w.heap.size, 0, none⟩ = some (.int .i64 y) ∧
    ∀ v' w', QI w' W.heap.size v' (l ++ [y]) → (w.alloc (.cells #[.int .i64 y] 3)).grownBy w' v.ownBlock → NewO (w.alloc (.cells #[.int .i64 y] 3)) v v' → Rs W w' (L.set i (3, v', icells (l ++ [y]))) := by
  have hb : Below w.heap.size w (w.alloc (.cells #[.int .i64 y] 3)) := (Below.refl _ _).alloc (Nat.le_refl _) _
  have h1 := h.below hb
  exact ⟨h1.row i hi, h1.sz, by rw [cell_of_block (heap_alloc_new w _)]; rfl, fun v' w' q g n => h1.grown i hi g q n⟩
theorem Rs.pushB {W w : World} {L : List (TypeId × Value × List Value)} (h : Rs W w L) (i : Nat) {v : Value} {l : List Bool} (hi : L[i]? = some (4, v, tcells l)) (y : Bool) :
    QB (w.alloc (.cells #[.bool y] 4)) W.heap.size v l ∧ W.heap.size ≤ (w.alloc (.cells #[.bool y] 4)).heap.size ∧ (w.alloc (.cells #[.bool y] 4)).cell? ⟨w.heap.size, 0, none⟩ = some (.bool y) ∧
    ∀ v' w', QB w' W.heap.size v' (l ++ [y]) → (w.alloc (.cells #[.bool y] 4)).grownBy w' v.ownBlock → NewO (w.alloc (.cells #[.bool y] 4)) v v' → Rs W w' (L.set i (4, v', tcells (l ++ [y]))) := by
  have hb : Below w.heap.size w (w.alloc (.cells #[.bool y] 4)) := (Below.refl _ _).alloc (Nat.le_refl _) _
  have h1 := h.below hb
  exact ⟨h1.row i hi, h1.sz, by rw [cell_of_block (heap_alloc_new w _)]; rfl, fun v' w' q g n => h1.grown i hi g q n⟩

/-- the state of the document's search, in memory -/
def RCy (W w : World) (E : List Eg) (a : Int) (v5 v6 v7 v8 : Value) (P : List Pt) (met : List Int) : Prop :=
  Rs W w [(3, v5, icells (P.map (·.1))), (3, v6, icells met), (3, v7, icells (P.map (·.2.1))), (4, v8, tcells (P.map (·.2.2)))] ∧ CyI E a P met
def rcyN (W w : World) (E : List Eg) (a : Int) (v5 v6 v7 v8 : Value) (n : Nat) : Prop := ∃ P met, RCy W w E a v5 v6 v7 v8 P met ∧ msP E P met = n

/-- a row made beside them -/
theorem Rs.make {W w : World} {L : List (TypeId × Value × List Value)} (h : Rs W w L) (e : TypeId) (cs : List Value) (hm : cs.length ≤ maxLen) (n : Nat) (hn : w.heap.size = n) : Rs W (w.alloc (.cells cs.toArray e)) (L ++ [(e, .slice (some ⟨n, 0, none⟩) cs.length cs.length, cs)]) := by
  subst hn
  exact h.add ((Below.refl _ _).alloc (Nat.le_refl _) _) (QR.made (Nat.le_refl _) e cs hm)
theorem one_le {x : Value} : [x].length ≤ maxLen := by simp [maxLen]
theorem rcy_start (w : World) (E : List Eg) (x0 : Int) : RCy w
      ((((w.alloc (.cells #[.int .i64 x0] 3)).alloc (.cells #[.int .i64 x0] 3)).alloc (.cells #[.int .i64 0] 3)).alloc (.cells #[.bool true] 4)) E x0
      (.slice (some ⟨w.heap.size, 0, none⟩) 1 1) (.slice (some ⟨w.heap.size + 1, 0, none⟩) 1 1) (.slice (some ⟨w.heap.size + 1 + 1, 0, none⟩) 1 1) (.slice (some ⟨w.heap.size + 1 + 1 + 1, 0, none⟩) 1 1) [(x0, 0, true)] [x0] :=
  ⟨((((Rs.start w).make _ [.int .i64 x0] one_le _ rfl).make _ [.int .i64 x0] one_le _ (by simp)).make _ [.int .i64 0] (by decide) _ (by simp)).make _ [.bool true] (by decide) _ (by simp), CyI.start E x0⟩
theorem RCy.open {W w : World} {E : List Eg} {a : Int} {v5 v6 v7 v8 : Value} {P0 : List Pt} {x l : Int} {f : Bool} {met : List Int} (h : RCy W w E a v5 v6 v7 v8 (P0 ++ [(x, l, f)]) met) (n0 : Nat) (hn : P0.length = n0) :
    ∃ g5 o5 c5 g7 o7 c7 g8 o8 c8, v5 = .slice (some ⟨g5, o5, none⟩) (n0 + 1) c5 ∧ v7 = .slice (some ⟨g7, o7, none⟩) (n0 + 1) c7 ∧ v8 = .slice (some ⟨g8, o8, none⟩) (n0 + 1) c8 ∧ n0 + 1 ≤ c5 ∧ n0 + 1 ≤ c7 ∧ n0 + 1 ≤ c8 ∧ c5 ≤ maxLen ∧ c7 ≤ maxLen ∧ c8 ≤ maxLen ∧
      w.cell? ⟨g5, o5 + n0, none⟩ = some (.int .i64 x) ∧ w.cell? ⟨g7, o7 + n0, none⟩ = some (.int .i64 l) ∧ w.cell? ⟨g8, o8 + n0, none⟩ = some (.bool f) ∧ (∀ i, w.frozen? ⟨g7, i, none⟩ = false) ∧ ∀ i, w.frozen? ⟨g8, i, none⟩ = false := by
  subst hn
  have hl5 : (icells ((P0 ++ [(x, l, f)]).map (·.1))).length = P0.length + 1 := by simp [icells]
  have hl7 : (icells ((P0 ++ [(x, l, f)]).map (·.2.1))).length = P0.length + 1 := by simp [icells]
  have hl8 : (tcells ((P0 ++ [(x, l, f)]).map (·.2.2))).length = P0.length + 1 := by simp [tcells]
  obtain ⟨g5, o5, c5, e5, a5, b5, -, -, -, d5⟩ := (h.1.row 0 rfl).at (by rw [hl5]; omega)
  obtain ⟨g7, o7, c7, e7, a7, b7, -, -, z7, d7⟩ := (h.1.row 2 rfl).at (by rw [hl7]; omega)
  obtain ⟨g8, o8, c8, e8, a8, b8, -, -, z8, d8⟩ := (h.1.row 3 rfl).at (by rw [hl8]; omega)
  rw [hl5] at e5 a5
  rw [hl7] at e7 a7
  rw [hl8] at e8 a8
  refine ⟨g5, o5, c5, g7, o7, c7, g8, o8, c8, e5, e7, e8, a5, a7, a8, b5, b7, b8, d5 _ _ ?_, d7 _ _ ?_, d8 _ _ ?_, z7, z8⟩
  · simp [icells]
  · simp [icells]
  · simp [tcells]
theorem rcy_next {W w w' : World} {E : List Eg} {a : Int} {v5 v6 v7 v8 u5 u6 u7 u8 : Value} {P P' : List Pt} {met met' : List Int} (h : RCy W w' E a v5 v6 v7 v8 P' met') (hl : msP E P' met' < msP E P met) (hN : msP E P met = lst (rcyN W w E a u5 u6 u7 u8)) :
    (∃ n, rcyN W w' E a v5 v6 v7 v8 n) ∧ lst (rcyN W w' E a v5 v6 v7 v8) < lst (rcyN W w E a u5 u6 u7 u8) :=
  ⟨⟨_, P', met', h, rfl⟩, Nat.lt_of_le_of_lt (lst_le ⟨P', met', h, rfl⟩) (hN ▸ hl)⟩
/-- one more on the way -/
theorem RCy.entered {W w : World} {E : List Eg} {a : Int} {v5 v6 v7 v8 : Value} {P0 : List Pt} {x y : Int} {met : List Int} (h : Rs W w [(3, v5, icells ((P0 ++ [(x, y, false)]).map (·.1) ++ [y])), (3, v6, icells (met ++ [y])), (3, v7, icells ((P0 ++ [(x, y, false)]).map (·.2.1) ++ [0])), (4, v8, tcells ((P0 ++ [(x, y, false)]).map (·.2.2) ++ [true]))])
    (hc : CyI E a (P0 ++ [(x, y, false), (y, 0, true)]) (met ++ [y])) : RCy W w E a v5 v6 v7 v8 (P0 ++ [(x, y, false), (y, 0, true)]) (met ++ [y]) := by
  refine ⟨?_, hc⟩
  have e1 : (P0 ++ [(x, y, false), (y, 0, true)]).map (·.1) = (P0 ++ [(x, y, false)]).map (·.1) ++ [y] := by simp
  have e2 : (P0 ++ [(x, y, false), (y, 0, true)]).map (·.2.1) = (P0 ++ [(x, y, false)]).map (·.2.1) ++ [0] := by simp
  have e3 : (P0 ++ [(x, y, false), (y, 0, true)]).map (·.2.2) = (P0 ++ [(x, y, false)]).map (·.2.2) ++ [true] := by simp
  rw [e1, e2, e3]
  exact h
theorem QI.of_row {W w : World} {v : Value} {l : List Int} (h : QR w W.heap.size 3 v (icells l)) : QI w W.heap.size v l := h

/-- where its cells lie -/
theorem QR.cell {w : World} {B : Nat} {e : TypeId} {g o n cap : Nat} {xs : List Value} (h : QR w B e (.slice (some ⟨g, o, none⟩) n cap) xs) : (∀ i u, xs[i]? = some u → w.cell? ⟨g, o + i, none⟩ = some u) ∧ (∀ i, w.frozen? ⟨g, i, none⟩ = false) ∧ g < w.heap.size := by
  rcases h with ⟨e1, -⟩ | ⟨g', o', c, cur, e1, h2, h3, h4, h5, h6, h7⟩
  · cases e1
  · injection e1 with e1 e2 e3
    injection e1 with e1
    injection e1 with e1 e4
    subst e1 e4
    exact ⟨fun i u hu => by rw [cell_of_block h3 _]; exact h7 i u hu, fun i => unfrozen_of_block h3 i, (Array.getElem?_eq_some_iff.1 h3).1⟩
theorem RCy.popped {W w : World} {E : List Eg} {a : Int} {A5 A7 A8 : Option Addr} {n5 n7 n8 c5 c7 c8 : Nat} {v6 : Value} {P0 : List Pt} {p : Pt} {met : List Int} (h : RCy W w E a (.slice A5 n5 c5) v6 (.slice A7 n7 c7) (.slice A8 n8 c8) (P0 ++ [p]) met) (n0 : Nat) (hn : P0.length = n0) (hc : CyI E a P0 met) :
    RCy W w E a (.slice A5 n0 c5) v6 (.slice A7 n0 c7) (.slice A8 n0 c8) P0 met := by
  subst hn
  have h1 := ((h.1.cut 0 rfl P0.length (by simp [icells])).cut 2 rfl P0.length (by simp [icells])).cut 3 rfl P0.length (by simp [tcells])
  refine ⟨?_, hc⟩
  have e1 : (icells ((P0 ++ [p]).map (·.1))).take P0.length = icells (P0.map (·.1)) := by rw [← icells_take, ← List.map_take, snoc_cut]
  have e2 : (icells ((P0 ++ [p]).map (·.2.1))).take P0.length = icells (P0.map (·.2.1)) := by rw [← icells_take, ← List.map_take, snoc_cut]
  have e3 : (tcells ((P0 ++ [p]).map (·.2.2))).take P0.length = tcells (P0.map (·.2.2)) := by unfold tcells; rw [← List.map_take, ← List.map_take, snoc_cut]
  rw [e1, e2, e3] at h1
  exact h1
/-- the last ones looked at written -/
theorem RCy.wrote {W w : World} {E : List Eg} {a : Int} {v5 v6 : Value} {g7 o7 n7 c7 g8 o8 n8 c8 : Nat} {P0 : List Pt} {x l y : Int} {f : Bool} {met : List Int} (h : RCy W w E a v5 v6 (.slice (some ⟨g7, o7, none⟩) n7 c7) (.slice (some ⟨g8, o8, none⟩) n8 c8) (P0 ++ [(x, l, f)]) met) (n0 : Nat) (hn : P0.length = n0) :
    w.cell? ⟨g7, o7 + n0, none⟩ = some (.int .i64 l) ∧ w.frozen? ⟨g7, o7 + n0, none⟩ = false ∧ (w.setCell ⟨g7, o7 + n0, none⟩ (.int .i64 y)).cell? ⟨g8, o8 + n0, none⟩ = some (.bool f) ∧ (w.setCell ⟨g7, o7 + n0, none⟩ (.int .i64 y)).frozen? ⟨g8, o8 + n0, none⟩ = false ∧
    Rs W ((w.setCell ⟨g7, o7 + n0, none⟩ (.int .i64 y)).setCell ⟨g8, o8 + n0, none⟩ (.bool false)) [(3, v5, icells ((P0 ++ [(x, y, false)]).map (·.1))), (3, v6, icells met), (3, .slice (some ⟨g7, o7, none⟩) n7 c7, icells ((P0 ++ [(x, y, false)]).map (·.2.1))), (4, .slice (some ⟨g8, o8, none⟩) n8 c8, tcells ((P0 ++ [(x, y, false)]).map (·.2.2)))] := by
  subst hn
  have r2 := (h.1.row 2 rfl).cell
  have h1 := h.1.put 2 rfl P0.length (.int .i64 y) (by simp [icells])
  have r3 := (h1.row 3 rfl).cell
  have h2 := h1.put 3 rfl P0.length (.bool false) (by simp [tcells])
  refine ⟨r2.1 _ _ (by simp [icells]), r2.2.1 _, r3.1 _ _ (by simp [tcells]), r3.2.1 _, ?_⟩
  have e2 : (icells ((P0 ++ [(x, l, f)]).map (·.2.1))).set P0.length (.int .i64 y) = icells ((P0 ++ [(x, y, false)]).map (·.2.1)) := by
    have : (P0.map (·.2.1)).length = P0.length := by simp
    rw [← icells_set]
    congr 1
    rw [List.map_append, List.map_append, ← this]
    exact snoc_set _ _ _
  have e3 : (tcells ((P0 ++ [(x, l, f)]).map (·.2.2))).set P0.length (.bool false) = tcells ((P0 ++ [(x, y, false)]).map (·.2.2)) := by
    have : ((P0.map (·.2.2)).map Value.bool).length = P0.length := by simp
    unfold tcells
    rw [List.map_append, List.map_append, List.map_append, List.map_append]
    conv => lhs; rw [← this]
    exact snoc_set _ _ _
  have e1 : (P0 ++ [(x, l, f)]).map (·.1) = (P0 ++ [(x, y, false)]).map (·.1) := by simp
  rw [e2, e3] at h2
  rw [← e1]
  exact h2


end Go.Proofs.Ytlhipnklljjahaa
