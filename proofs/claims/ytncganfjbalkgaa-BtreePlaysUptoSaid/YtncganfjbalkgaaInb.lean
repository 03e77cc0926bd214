/-
  Rows of bytes that lie within what came in.
  Conditions: none.
-/
import Derived.Test.YtncganfjbalkgaaBulk
namespace Go.Proofs.Ytncganfjbalkgaa
open Go.RowKit Go.Joins Go.ChangeShapes Go.WideShapes
set_option linter.unusedVariables false

/-- a row of bytes within what came in: its value and bytes -/
theorem inner_bytes {H : Type} {enc : TypeId × Value → H} {W : World} {base fuel : Nat} {cs : List Value} {d : DataW H} {p : List MemPlace}
    (h : DataW.trod enc Try.prog W base (fun _ => true) true fuel 29 cs = some (d, p)) (hb : Rows.uptoBulk d ≤ 1048576) :
    ∃ (a : Option Addr) (l : List Nat) (cap b off : Nat), cs = [.slice a l.length cap] ∧ l.length ≤ cap ∧ cap ≤ 1048576 ∧ (l.length = 0 ∨ a = some ⟨b, off, none⟩) ∧ IsB W b off l ∧ ((a = none ∧ l.length = 0 ∧ cap = 0) ∨ ∃ ad, a = some ad ∧ (0 < l.length → ad = ⟨b, off, none⟩)) := by
  rcases Go.Deep.open_slice Try.underlying29 h with ⟨rfl, hx⟩ | ⟨a', len, m', m, n, D, Pl, rfl, hbb, hl, hm, hmm, hx, hi⟩
  · exact ⟨none, [], 0, 0, 0, rfl, Nat.le_refl _, by decide, .inl rfl, ⟨fun h => absurd h (by simp), fun i x hx => absurd hx (by simp), fun x hx => absurd hx (by simp)⟩, .inl ⟨rfl, rfl, rfl⟩⟩
  · simp only [if_true] at hmm
    subst hmm
    simp only [Prod.mk.injEq] at hx
    obtain ⟨rfl, -⟩ := hx
    have hbs : Rows.uptoBulkAll ((List.range len).map D) + Rows.uptoBulkAll ((List.range (m - len)).map fun j => D (len + j)) + 1 ≤ 1048576 := by
      unfold Rows.uptoBulk at hb
      exact hb
    have l1 := up_len ((List.range len).map D)
    have l2 := up_len ((List.range (m - len)).map fun j => D (len + j))
    rw [List.length_map, List.length_range] at l1 l2
    rw [cells_u8] at hi
    have hcell : ∀ i, i < len → ∃ t : Int, W.cell? (a'.add i) = some (.int .u8 t) ∧ 0 ≤ t ∧ t < 256 := by
      intro i hil
      obtain ⟨cs', hc, ht⟩ := hi i (by omega)
      obtain ⟨_, hcl, hat⟩ := World.cells?_some hc
      obtain ⟨k, e0, -, wk⟩ := DataW.trod_int Try.underlying5 ht
      subst e0
      have := hat 0 (by decide)
      have hw : 0 ≤ k ∧ k ≤ 255 := by simpa [Lit.wf, IntKind.min, IntKind.max, IntKind.signed, IntKind.bits] using wk
      exact ⟨k, by simpa [Addr.add] using this, by omega, by omega⟩
    by_cases h0 : len = 0
    · subst h0
      exact ⟨_, [], m, 0, 0, rfl, hl, by omega, .inl rfl, ⟨fun h => absurd h (by simp), fun i x hx => absurd hx (by simp), fun x hx => absurd hx (by simp)⟩, .inr ⟨_, rfl, fun h => absurd h (by simp)⟩⟩
    · have hsp : a'.spot = none := by
        obtain ⟨k, c, -⟩ := hcell 0 (by omega)
        simpa [Addr.add] using World.cell?_spot c
      obtain ⟨b, off, spot⟩ := a'
      simp only at hsp
      subst hsp
      have ea : ∀ j, (⟨b, off, none⟩ : Addr).add j = ⟨b, off + j, none⟩ := by intro j; unfold Addr.add; split <;> simp_all
      have hlt : b < W.heap.size := by
        obtain ⟨k, c, -⟩ := hcell 0 (by omega)
        rw [ea] at c
        exact World.block_lt_of_cell? W _ c
      obtain ⟨l, el⟩ : ∃ l, (List.range len).map (fun i => cNat (W.cell? ⟨b, off + i, none⟩)) = l := ⟨_, rfl⟩
      have hll : l.length = len := by rw [← el]; simp
      have hat : ∀ (i x : Nat), l[i]? = some x → W.cell? ⟨b, off + i, none⟩ = some (.int .u8 (x : Int)) ∧ x < 256 := by
        intro i x hx
        have hil : i < len := by rw [← hll]; exact (List.getElem?_eq_some_iff.1 hx).1
        rw [← el, List.getElem?_map, List.getElem?_range hil] at hx
        obtain ⟨t, c, t0, t1⟩ := hcell i hil
        rw [ea] at c
        simp only [Option.map_some, Option.some.injEq] at hx
        rw [c] at hx
        simp only [cNat] at hx
        rw [c]
        refine ⟨?_, by omega⟩
        congr 2
        omega
      refine ⟨some ⟨b, off, none⟩, l, m, b, off, by rw [hll], by omega, by omega, .inr rfl, ⟨fun _ => hlt, fun i x hx => (hat i x hx).1, fun x hx => ?_⟩, .inr ⟨_, rfl, fun _ => rfl⟩⟩
      obtain ⟨i, hi⟩ := List.getElem?_of_mem hx
      exact (hat i x hi).2

end Go.Proofs.Ytncganfjbalkgaa
