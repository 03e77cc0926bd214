/-
  What a bound on the arguments' values and letters gives; lists of values and of bytes that came in.
  Conditions: none.
-/
import Derived.Test.YtncganfjbalkgaaByt2
import Derived.Test.YtncganfjbalkgaaVal10
import Derived.Test.YtncganfjbalkgaaVl
import Derived.Deep.Slices
import Derived.Deep.Fields
import Derived.Laws.AppendOwnNone
import Derived.Laws.BytesString
namespace Go.Proofs.Ytncganfjbalkgaa
open Go.RowKit Go.Joins Go.ChangeShapes Go.WideShapes
set_option linter.unusedVariables false

theorem up_one {H : Type} (d : DataW H) : 1 ≤ Rows.uptoBulk d := by
  cases d with
  | lit l => cases l <;> simp [Rows.uptoBulk]
  | _ => simp [Rows.uptoBulk]
theorem up_mem {H : Type} {d : DataW H} : ∀ {l : List (DataW H)}, d ∈ l → Rows.uptoBulk d ≤ Rows.uptoBulkAll l
  | [], h => by cases h
  | x :: r, h => by
    unfold Rows.uptoBulkAll
    rcases List.mem_cons.1 h with rfl | h
    · omega
    · have := up_mem h; omega
theorem up_len {H : Type} : ∀ (l : List (DataW H)), l.length ≤ Rows.uptoBulkAll l
  | [] => by simp
  | x :: r => by
    unfold Rows.uptoBulkAll
    have := up_one x
    have := up_len r
    rw [List.length_cons]
    omega
theorem up_all {H : Type} {l : List (DataW H)} (hk : Rows.uptoSmall H l = true) : Rows.uptoBulkAll l ≤ 1048576 := of_decide_eq_true hk
theorem up_arg {H : Type} {l : List (DataW H)} (hk : Rows.uptoSmall H l = true) {d : DataW H} (h : d ∈ l) : Rows.uptoBulk d ≤ 1048576 := Nat.le_trans (up_mem h) (up_all hk)

theorem cells_u8 : Try.prog.cellsOf 5 = 1 := by kernel_rfl
def cNat : Option Value → Nat | some (.int _ n) => n.toNat | _ => 0
/-- a row of bytes that came in -/
theorem open_bytes {H : Type} {enc : TypeId × Value → H} {W : World} {base b0 : Nat} {r : Reach} {v : Value} {d : DataW H} {p : List MemPlace}
    (o : Value.okWide Try.prog W r b0 29 v) (h : DataW.Trod enc Try.prog W base (fun _ => true) true 29 v d p) (hb : Rows.uptoBulk d ≤ 1048576) :
    ∃ (a : Option Addr) (l : List Nat) (cap b off : Nat), v = .slice a l.length cap ∧ l.length ≤ cap ∧ cap ≤ 1048576 ∧ (l.length = 0 ∨ a = some ⟨b, off, none⟩) ∧ IsB W b off l ∧ ((a = none ∧ l.length = 0 ∧ cap = 0) ∨ ∃ ad, a = some ad ∧ (0 < l.length → ad = ⟨b, off, none⟩)) := by
  obtain ⟨a, len, cap, rfl⟩ := okWide_slice Try.underlying29 o
  obtain ⟨fuel, hf⟩ := h
  rcases Go.Deep.open_slice Try.underlying29 hf with ⟨hcs, hx⟩ | ⟨a', len', cap', m, n, D, Pl, hcs, hbb, hl, hm, hmm, hx, hi⟩
  · simp [Value.cells] at hcs
    obtain ⟨rfl, rfl, rfl⟩ := hcs
    exact ⟨none, [], 0, 0, 0, rfl, Nat.le_refl _, by decide, .inl rfl, ⟨fun h => absurd h (by simp), fun i x hx => absurd hx (by simp), fun x hx => absurd hx (by simp)⟩, .inl ⟨rfl, rfl, rfl⟩⟩
  · simp [Value.cells] at hcs
    obtain ⟨rfl, rfl, rfl⟩ := hcs
    simp only [if_true] at hmm
    subst hmm
    simp only [Prod.mk.injEq] at hx
    obtain ⟨rfl, -⟩ := hx
    have hbs : Rows.uptoBulkAll ((List.range len).map D) + Rows.uptoBulkAll ((List.range (m - len)).map fun j => D (len + j)) + 1 ≤ 1048576 := by
      unfold Rows.uptoBulk at hb
      exact hb
    have l1 := up_len ((List.range len).map D)
    have l2 := up_len ((List.range (m - len)).map fun j => D (len + j))
    rw [List.length_map, List.length_range] at l1 l2
    rw [cells_u8] at hi
    have hcell : ∀ i, i < len → ∃ t : Int, W.cell? (a'.add i) = some (.int .u8 t) ∧ 0 ≤ t ∧ t < 256 := by
      intro i hil
      obtain ⟨cs', hc, ht⟩ := hi i (by omega)
      obtain ⟨_, hcl, hat⟩ := World.cells?_some hc
      obtain ⟨k, e0, -, wk⟩ := DataW.trod_int Try.underlying5 ht
      subst e0
      have := hat 0 (by decide)
      have hw : 0 ≤ k ∧ k ≤ 255 := by simpa [Lit.wf, IntKind.min, IntKind.max, IntKind.signed, IntKind.bits] using wk
      exact ⟨k, by simpa [Addr.add] using this, by omega, by omega⟩
    by_cases h0 : len = 0
    · subst h0
      exact ⟨_, [], m, 0, 0, rfl, hl, by omega, .inl rfl, ⟨fun h => absurd h (by simp), fun i x hx => absurd hx (by simp), fun x hx => absurd hx (by simp)⟩, .inr ⟨_, rfl, fun h => absurd h (by simp)⟩⟩
    · have hsp : a'.spot = none := by
        obtain ⟨k, c, -⟩ := hcell 0 (by omega)
        simpa [Addr.add] using World.cell?_spot c
      obtain ⟨b, off, spot⟩ := a'
      simp only at hsp
      subst hsp
      have ea : ∀ j, (⟨b, off, none⟩ : Addr).add j = ⟨b, off + j, none⟩ := by intro j; unfold Addr.add; split <;> simp_all
      have hlt : b < W.heap.size := by
        obtain ⟨k, c, -⟩ := hcell 0 (by omega)
        rw [ea] at c
        exact World.block_lt_of_cell? W _ c
      obtain ⟨l, el⟩ : ∃ l, (List.range len).map (fun i => cNat (W.cell? ⟨b, off + i, none⟩)) = l := ⟨_, rfl⟩
      have hll : l.length = len := by rw [← el]; simp
      have hat : ∀ (i x : Nat), l[i]? = some x → W.cell? ⟨b, off + i, none⟩ = some (.int .u8 (x : Int)) ∧ x < 256 := by
        intro i x hx
        have hil : i < len := by rw [← hll]; exact (List.getElem?_eq_some_iff.1 hx).1
        rw [← el, List.getElem?_map, List.getElem?_range hil] at hx
        obtain ⟨t, c, t0, t1⟩ := hcell i hil
        rw [ea] at c
        simp only [Option.map_some, Option.some.injEq] at hx
        rw [c] at hx
        simp only [cNat] at hx
        rw [c]
        refine ⟨?_, by omega⟩
        congr 2
        omega
      refine ⟨some ⟨b, off, none⟩, l, m, b, off, by rw [hll], by omega, by omega, .inr rfl, ⟨fun _ => hlt, fun i x hx => (hat i x hx).1, fun x hx => ?_⟩, .inr ⟨_, rfl, fun _ => rfl⟩⟩
      obtain ⟨i, hi⟩ := List.getElem?_of_mem hx
      exact (hat i x hi).2

/-- append of a row of bytes that came in -/
theorem wp_copyA {ops : Array Oper} {rest : List Oper} {o : Oper} {a : Act} {w : World} {Q : Exit → Act → World → Prop} (hgd : o.guard = none) (s x : Operand)
    (ho : o.op = .call { callee := .builtin .append, args := #[s, x], argTypes := #[29, 29] })
    (base : Nat) (v : Value) (l : List Nat) (hs : a.eval s = v) (hown : OwB w base v l) (A : Option Addr) (c : Nat) (r : List Nat) (hx : a.eval x = .slice A r.length c)
    (b off : Nat) (hN : (A = none ∧ r.length = 0 ∧ c = 0) ∨ ∃ ad, A = some ad ∧ (0 < r.length → ad = ⟨b, off, none⟩)) (hr : IsB w b off r) (hsz : l.length + r.length ≤ 70368744177664) (hbase : base ≤ w.heap.size)
    (h : ∀ v' w', OwB w' base v' (l ++ r) → w.grownBy w' v.ownBlock → wpList Try.prog ops Q rest (a.put o.dst v') w') : wpList Try.prog ops Q (o :: rest) a w := by
  rcases hN with ⟨rfl, h0, rfl⟩ | ⟨ad, rfl, had⟩
  · have hr0 : r = [] := List.length_eq_zero_iff.1 h0
    subst hr0
    obtain ⟨i0, hi, hz0, hz1, hz2⟩ := info_parts infoB
    refine wpList_append_own_none hgd s x _ ho base 5 i0 1 Try.underlying29 hi v l.length (bcells l) hs hown.1 hx (h v w ?_ ⟨rfl, rfl, rfl, Nat.le_refl _, fun _ _ _ => rfl⟩)
    rw [List.append_nil]
    exact hown
  · refine wp_push hgd s x ho base v l hs hown ad r.length c r hx rfl (fun j u hj => ?_) hsz hbase h
    have hj2 : j < (bcells r).length := (List.getElem?_eq_some_iff.1 hj).1
    rw [bcells_length] at hj2
    rw [had (by omega)]
    have ea : (⟨b, off, none⟩ : Addr).add j = ⟨b, off + j, none⟩ := by unfold Addr.add; split <;> simp_all
    rw [ea]
    have hx2 : r[j]? = some (r[j]'hj2) := List.getElem?_eq_getElem hj2
    simp only [bcells, List.getElem?_map, hx2, Option.map_some, Option.some.injEq] at hj
    rw [← hj]
    exact hr.c j _ hx2
theorem str_arg {w : World} {A : Option Addr} {b off c : Nat} {r : List Nat} (hN : r.length = 0 ∨ A = some ⟨b, off, none⟩) (h0 : A = none → r.length = 0) (hr : IsB w b off r) : (convert 29 9 (.slice A r.length c)).run Try.prog w = .ok (.string (strB r)) w := by
  cases A with
  | none =>
    have : r = [] := List.length_eq_zero_iff.1 (h0 rfl)
    subst this
    exact run_convert_bytes_nil w 29 5 Try.underlying29 Try.underlying5 _ _ 9 Try.underlying9
  | some ad =>
    rcases hN with h | h
    · have : r = [] := List.length_eq_zero_iff.1 h
      subst this
      rw [run_convert_bytes_string w 29 9 5 (some ad) _ c Try.underlying29 Try.underlying5 Try.underlying9]
      exact run_bytesToString w ad 0 c [] (by simp [loadCells, loadCellsFrom, Sem.run_pure])
    · injection h with h
      subst h
      refine run_convert_bytes_arg w 29 5 Try.underlying29 Try.underlying5 b off r.length c (r.map fun n : Nat => (n : Int)) (by simp) (fun i hi => ?_) 9 Try.underlying9
      have hx2 : r[i]? = some (r[i]'hi) := List.getElem?_eq_getElem hi
      rw [hr.c i _ hx2]
      simp [List.getD_eq_getElem?_getD, List.getElem?_map, hx2]
theorem bytes_made (w : World) : OwB (w.alloc (.cells #[] 5)) w.heap.size (.slice (some ⟨w.heap.size, 0, none⟩) 0 0) [] := ⟨World.ownsRow_made w #[] 0 (Nat.le_refl _) (by decide) rfl, by simp⟩

end Go.Proofs.Ytncganfjbalkgaa
