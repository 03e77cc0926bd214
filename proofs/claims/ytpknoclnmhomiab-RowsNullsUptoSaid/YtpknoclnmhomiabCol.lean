/-
  Lists of columns that lie in memory, and that came in.
  Conditions: none.
-/
import Derived.Test.YtpknoclnmhomiabBulk
namespace Go.Proofs.Ytpknoclnmhomiab
open Go.RowKit Go.Joins Go.ChangeShapes Go.WideShapes
set_option linter.unusedVariables false

theorem cellsC : Try.prog.cellsOf 47 = 3 := by kernel_rfl
theorem cells_bool : Try.prog.cellsOf 4 = 1 := by kernel_rfl
theorem infoC : (Try.prog.info? 47).map (fun i => (i.zero, i.size, i.bytes)) = some (some (.agg #[.string ⟨#[]⟩, .int .i64 0, .bool false]), 3, 32) := by kernel_rfl

/-- columns in memory: their names, types, and whether they are required -/
structure IsC (w : World) (b off len : Nat) (mf : Nat → ByteArray) (tf : Nat → Int) (qf : Nat → Bool) : Prop where
  hb : 0 < len → b < w.heap.size
  c0 : ∀ i, i < len → w.cell? ⟨b, off + i * 3, none⟩ = some (.string (mf i))
  c1 : ∀ i, i < len → w.cell? ⟨b, off + i * 3 + 1, none⟩ = some (.int .i64 (tf i))
  c2 : ∀ i, i < len → w.cell? ⟨b, off + i * 3 + 2, none⟩ = some (.bool (qf i))
theorem IsC.below {w w' : World} {b off len : Nat} {mf : Nat → ByteArray} {tf : Nat → Int} {qf : Nat → Bool} (h : IsC w b off len mf tf qf) (hw : Below w.heap.size w w') : IsC w' b off len mf tf qf := by
  obtain ⟨hc, _⟩ := bcell hw
  exact ⟨fun hl => Nat.lt_of_lt_of_le (h.hb hl) hw.size, fun i hi => by rw [hc _ _ (h.hb (by omega))]; exact h.c0 i hi, fun i hi => by rw [hc _ _ (h.hb (by omega))]; exact h.c1 i hi, fun i hi => by rw [hc _ _ (h.hb (by omega))]; exact h.c2 i hi⟩

def cBool : Option Value → Bool | some (.bool b) => b | _ => false

theorem open_cols {H : Type} {enc : TypeId × Value → H} {W : World} {base b0 : Nat} {r : Reach} {v : Value} {d : DataW H} {p : List MemPlace}
    (o : Value.okWide Try.prog W r b0 22 v) (h : DataW.Trod enc Try.prog W base (fun _ => true) true 22 v d p) (hb : Rows.uptoBulk d ≤ 1048576) :
    ∃ (a : Option Addr) (len cap b off : Nat) (mf : Nat → ByteArray) (tf : Nat → Int) (qf : Nat → Bool), v = .slice a len cap ∧ len ≤ cap ∧ cap ≤ 1048576 ∧ (len = 0 ∨ a = some ⟨b, off, none⟩) ∧ IsC W b off len mf tf qf ∧
      (∀ i, i < len → InI (tf i)) ∧ ((a = none ∧ len = 0 ∧ cap = 0) ∨ ∃ ad, a = some ad ∧ (0 < len → ad = ⟨b, off, none⟩)) := by
  obtain ⟨a, len, cap, rfl⟩ := okWide_slice Try.underlying22 o
  obtain ⟨fuel, hf⟩ := h
  rcases Go.Deep.open_slice Try.underlying22 hf with ⟨hcs, hx⟩ | ⟨a', len', cap', m, n, D, Pl, hcs, hbb, hl, hm, hmm, hx, hi⟩
  · simp [Value.cells] at hcs
    obtain ⟨rfl, rfl, rfl⟩ := hcs
    exact ⟨none, 0, 0, 0, 0, fun _ => ByteArray.empty, fun _ => 0, fun _ => false, rfl, Nat.le_refl _, by decide, .inl rfl, ⟨fun h => absurd h (by decide), fun i hi => absurd hi (by omega), fun i hi => absurd hi (by omega), fun i hi => absurd hi (by omega)⟩, fun i hi => absurd hi (by omega), .inl ⟨rfl, rfl, rfl⟩⟩
  · simp [Value.cells] at hcs
    obtain ⟨rfl, rfl, rfl⟩ := hcs
    simp only [if_true] at hmm
    subst hmm
    simp only [Prod.mk.injEq] at hx
    obtain ⟨rfl, -⟩ := hx
    have hbs : Rows.uptoBulkAll ((List.range len).map D) + Rows.uptoBulkAll ((List.range (m - len)).map fun j => D (len + j)) + 1 ≤ 1048576 := by
      unfold Rows.uptoBulk at hb
      exact hb
    have l1 := up_len ((List.range len).map D)
    have l2 := up_len ((List.range (m - len)).map fun j => D (len + j))
    rw [List.length_map, List.length_range] at l1 l2
    rw [cellsC] at hi
    have hcell : ∀ i, i < len → ∃ s k q, W.cell? (a'.add (i * 3)) = some (.string s) ∧ W.cell? ((a'.add (i * 3)).add 1) = some (.int .i64 k) ∧ W.cell? ((a'.add (i * 3)).add 2) = some (.bool q) ∧ InI k := by
      intro i hil
      obtain ⟨cs', hc, ht⟩ := hi i (by omega)
      obtain ⟨y0, y1, y2, n', -, hlen, h0, h1, h2⟩ := Go.Deep.trod_struct3 Try.underlying47 ht
      rw [cellsC] at hlen
      obtain ⟨_, hcl, hat⟩ := World.cells?_some hc
      match cs', hlen with
      | [c0, c1, c2], _ =>
        obtain ⟨s, e0, -, -⟩ := DataW.trod_string Try.underlying9 h0
        obtain ⟨k, e1, -, wk⟩ := DataW.trod_int Try.underlying3 h1
        obtain ⟨q, e2, -⟩ := DataW.trod_bool Try.underlying4 h2
        simp [cells_int, cells_bool, cells_string] at e0 e1 e2
        subst e0 e1 e2
        refine ⟨s, k, q, ?_, ?_, ?_, bounds_i64 wk⟩
        · have := hat 0 (by decide)
          simpa [Addr.add] using this
        · exact hat 1 (by decide)
        · exact hat 2 (by decide)
    by_cases h0 : len = 0
    · exact ⟨_, _, _, 0, 0, fun _ => ByteArray.empty, fun _ => 0, fun _ => false, rfl, hl, by omega, .inl h0, ⟨fun h => by omega, fun i hi => by omega, fun i hi => by omega, fun i hi => by omega⟩, fun i hi => by omega, .inr ⟨_, rfl, fun h => by omega⟩⟩
    · have hsp : a'.spot = none := by
        obtain ⟨s, k, q, c, -⟩ := hcell 0 (by omega)
        simpa [Addr.add] using World.cell?_spot c
      obtain ⟨b, off, spot⟩ := a'
      simp only at hsp
      subst hsp
      have ea : ∀ j, (⟨b, off, none⟩ : Addr).add j = ⟨b, off + j, none⟩ := by intro j; unfold Addr.add; split <;> simp_all
      have hlt : b < W.heap.size := by
        obtain ⟨s, k, q, c, -⟩ := hcell 0 (by omega)
        rw [ea] at c
        exact World.block_lt_of_cell? W _ c
      refine ⟨some ⟨b, off, none⟩, _, _, b, off, fun i => cStr (W.cell? ⟨b, off + i * 3, none⟩), fun i => cInt (W.cell? ⟨b, off + i * 3 + 1, none⟩), fun i => cBool (W.cell? ⟨b, off + i * 3 + 2, none⟩), rfl, hl, by omega, .inr rfl, ⟨fun _ => hlt, fun i hil => ?_, fun i hil => ?_, fun i hil => ?_⟩, fun i hil => ?_, .inr ⟨_, rfl, fun _ => rfl⟩⟩
      · obtain ⟨s, k, q, c0, c1, c2, -⟩ := hcell i hil
        rw [ea] at c0
        rw [c0]; rfl
      · obtain ⟨s, k, q, c0, c1, c2, -⟩ := hcell i hil
        rw [Go.Deep.add_add, ea, ← Nat.add_assoc] at c1
        rw [c1]; rfl
      · obtain ⟨s, k, q, c0, c1, c2, -⟩ := hcell i hil
        rw [Go.Deep.add_add, ea, ← Nat.add_assoc] at c2
        rw [c2]; rfl
      · obtain ⟨s, k, q, c0, c1, c2, hk⟩ := hcell i hil
        rw [Go.Deep.add_add, ea, ← Nat.add_assoc] at c1
        show InI (cInt (W.cell? _))
        rw [c1]; exact hk

end Go.Proofs.Ytpknoclnmhomiab
