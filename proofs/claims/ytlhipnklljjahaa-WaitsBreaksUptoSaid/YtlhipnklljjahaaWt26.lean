/-
  What the laws ask of a cycle that was found; how long the edges that came in may be; an append of some edges onto a list of the call's own.
  Conditions: none.
-/
import Derived.Test.YtlhipnklljjahaaWt25
import Derived.StillTailTactics
namespace Go.Proofs.Ytlhipnklljjahaa
open Go.RowKit Go.Joins Go.ChangeShapes Go.WideShapes
set_option linter.unusedVariables false
set_option linter.unnecessarySimpa false
set_option linter.unusedSimpArgs false

theorem chn_at {S : Int → List Int} : ∀ {l : List Int} {i : Nat} {y x : Int}, Chn S l → l[i]? = some y → l[i + 1]? = some x → y ∈ S x
  | [], i, y, x, _, h, _ => by simp at h
  | [_], i, y, x, _, _, h => by simp at h
  | p :: q :: r, 0, y, x, hc, h, h' => by
    simp at h h'
    subst h h'
    exact hc.1
  | p :: q :: r, i + 1, y, x, hc, h, h' => chn_at (l := q :: r) hc.2 (by simpa using h) (by simpa using h')
theorem Real.facts {S : Int → List Int} {a : Int} {o : List Int} (h : Real S a o) (hne : o ≠ []) :
    o[0]? = some a ∧ o.Nodup ∧ Rch S a a ∧ ∀ (i : Nat) (x : Int), o[i]? = some x → ∃ y, o[(i + 1) % o.length]? = some y ∧ y ∈ S x := by
  rcases h with ⟨e, _⟩ | ⟨r, x, l, e, e2, ha, hnd, hc⟩
  · exact absurd e hne
  · have hp : 0 < o.length := by rw [e]; simp
    have hz : o[0]? = some a := by rw [e]; rfl
    have hlast : o[o.length - 1]? = some x := by
      have h1 := List.getElem?_reverse (l := o) (i := 0) hp
      rw [e2] at h1
      simpa using h1.symm
    have step : ∀ (i : Nat) (u v : Int), o[i]? = some u → o[i + 1]? = some v → v ∈ S u := by
      intro i u v hu hv
      have hi := (List.getElem?_eq_some_iff.1 hv).1
      have h1 := List.getElem?_reverse (l := o) (i := o.length - 1 - (i + 1)) (by omega)
      have h2 := List.getElem?_reverse (l := o) (i := o.length - 1 - (i + 1) + 1) (by omega)
      rw [show o.length - 1 - (o.length - 1 - (i + 1)) = i + 1 by omega, hv] at h1
      rw [show o.length - 1 - (o.length - 1 - (i + 1) + 1) = i by omega, hu] at h2
      exact chn_at hc h1 h2
    have reach : ∀ (i : Nat) (u : Int), o[i]? = some u → u = a ∨ Rch S a u := by
      intro i
      induction i with
      | zero => intro u hu; rw [hz] at hu; exact .inl (Option.some.inj hu).symm
      | succ i ih =>
        intro v hv
        have hi := (List.getElem?_eq_some_iff.1 hv).1
        obtain ⟨u, hu⟩ : ∃ u, o[i]? = some u := ⟨_, List.getElem?_eq_getElem (by omega)⟩
        have hs := step i u v hu hv
        rcases ih u hu with e | e
        · subst e; exact .inr (.one _ _ hs)
        · exact .inr (e.snoc hs)
    refine ⟨hz, hnd, ?_, fun i u hu => ?_⟩
    · rcases reach _ x hlast with e | e
      · subst e; exact .one _ _ ha
      · exact e.snoc ha
    · have hi := (List.getElem?_eq_some_iff.1 hu).1
      by_cases c : i + 1 = o.length
      · have hux : u = x := by
          rw [show o.length - 1 = i by omega, hu] at hlast
          exact Option.some.inj hlast
        refine ⟨a, ?_, by rw [hux]; exact ha⟩
        rw [c, Nat.mod_self]
        exact hz
      · obtain ⟨v, hv⟩ : ∃ v, o[i + 1]? = some v := ⟨_, List.getElem?_eq_getElem (by omega)⟩
        refine ⟨v, ?_, step i u v hu hv⟩
        rw [Nat.mod_eq_of_lt (by omega)]
        exact hv
theorem Real.none {S : Int → List Int} {a : Int} (h : Real S a []) : ¬ Rch S a a := by
  rcases h with ⟨_, h⟩ | ⟨r, x, l, e, _⟩
  · exact h
  · cases e

theorem up_len3 {H : Type} : ∀ (l : List (DataW H)), (∀ d ∈ l, 3 ≤ Rows.uptoBulk d) → l.length * 3 ≤ Rows.uptoBulkAll l
  | [], _ => by simp
  | x :: r, h => by
    unfold Rows.uptoBulkAll
    have := h x (List.mem_cons_self ..)
    have := up_len3 r (fun d hd => h d (List.mem_cons_of_mem _ hd))
    rw [List.length_cons]
    omega
set_option maxRecDepth 100000 in
theorem edges_third {H : Type} {enc : TypeId × Value → H} {W : World} {base : Nat} {a : Option Addr} {n cap : Nat} {d : DataW H} {p : List MemPlace}
    (h : DataW.Trod enc Try.prog W base (fun _ => true) true 22 (.slice a n cap) d p) (hb : Rows.uptoBulk d ≤ 1048576) : n * 3 ≤ 1048576 := by
  obtain ⟨fuel, hf⟩ := h
  rcases Go.Deep.open_slice Try.underlying22 hf with ⟨hcs, hx⟩ | ⟨a', len', cap', m, n', D, Pl, hcs, hbb, hl, hm, hmm, hx, hi⟩
  · simp [Value.cells] at hcs
    omega
  · simp [Value.cells] at hcs
    obtain ⟨rfl, rfl, rfl⟩ := hcs
    simp only [if_true] at hmm
    subst hmm
    simp only [Prod.mk.injEq] at hx
    obtain ⟨rfl, -⟩ := hx
    have hbs : Rows.uptoBulkAll ((List.range n).map D) + Rows.uptoBulkAll ((List.range (m - n)).map fun j => D (n + j)) + 1 ≤ 1048576 := by
      unfold Rows.uptoBulk at hb
      exact hb
    have l1 := up_len3 ((List.range n).map D) (fun d hd => by
      obtain ⟨i, hir, rfl⟩ := List.mem_map.1 hd
      rw [List.mem_range] at hir
      obtain ⟨cs', hc, ht⟩ := hi i (by omega)
      obtain ⟨y0, y1, n'', hy, -, -, -⟩ := Go.ChangeShapes.trod_struct2 Try.underlying27 ht
      have h1 := congrArg Prod.fst hy
      simp only at h1
      rw [h1]
      have u0 := up_one y0.1
      have u1 := up_one y1.1
      simp only [Rows.uptoBulk, Rows.uptoBulkAll]
      omega)
    rw [List.length_map, List.length_range] at l1
    omega
/-- append of a few edges -/
theorem run_pushE (w2 : World) (B : Nat) (v : Value) (L : List Eg) (hown : OwEd w2 B v L) (hB : B ≤ w2.heap.size) (news : List Eg) (cs : Array Value) (hcs : cs.toList = edcells news) (k : Nat) (hk : news.length = k) (hsz : L.length + news.length ≤ 4294967296) (ty : TypeId) :
    ∃ v' w', (Builtin.append_ #[22, 22] ty #[v, .slice (some ⟨w2.heap.size, 0, none⟩) k k]).run Try.prog (w2.alloc (.cells cs 27)) = .ok v' w' ∧ OwEd w' B v' (L ++ news) ∧ Below B w2 w' := by
  subst hk
  obtain ⟨i0, hi, hz0, hz1, hz2⟩ := info_parts infoEd
  have b1 : Below B w2 (w2.alloc (.cells cs 27)) := (Below.refl _ _).alloc hB _
  have hE := isEg_made w2 news cs hcs
  obtain ⟨v', w', hrun, g1, g2, g3⟩ := run_append_own (P := Try.prog) (w2.alloc (.cells cs 27)) B 22 ty 27 i0 _ 2 16 Try.underlying22 hi hz0 hz1 hz2 rfl (by decide) v L.length (edcells L) (hown.1.alloc _) ⟨w2.heap.size, 0, none⟩ news.length news.length (edcells news) (edcells_length news) (fun j u hj => by
    have ea : (⟨w2.heap.size, 0, none⟩ : Addr).add j = ⟨w2.heap.size, 0 + j, none⟩ := by unfold Addr.add; split <;> simp_all
    rw [ea]
    exact hE.news j u hj) (edcells_one news) (by unfold maxLen; omega) (by omega) (Nat.le_trans hB b1.size)
  refine ⟨v', w', hrun, ⟨?_, fun e => hown.2 (g3.1 e).1⟩, b1.grown g2 (Nat.le_trans hB b1.size) (fun k hk => (hown.1.lt k hk).1)⟩
  rw [edcells_app, List.length_append]
  exact g1

end Go.Proofs.Ytlhipnklljjahaa
