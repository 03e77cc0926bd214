/-
  What a bound on the arguments' values and letters gives; lists of values and of bytes that came in.
  Conditions: none.
-/
import Derived.Test.YtpknoclnmhomiabByt2
import Derived.Test.YtpknoclnmhomiabVal10
import Derived.Test.YtpknoclnmhomiabVl
import Derived.Deep.Slices
import Derived.Deep.Fields
import Derived.Laws.AppendOwnNone
import Derived.Laws.BytesString
namespace Go.Proofs.Ytpknoclnmhomiab
open Go.RowKit Go.Joins Go.ChangeShapes Go.WideShapes
set_option linter.unusedVariables false

theorem up_one {H : Type} (d : DataW H) : 1 ≤ Rows.uptoBulk d := by
  cases d with
  | lit l => cases l <;> simp [Rows.uptoBulk]
  | _ => simp [Rows.uptoBulk]
theorem up_mem {H : Type} {d : DataW H} : ∀ {l : List (DataW H)}, d ∈ l → Rows.uptoBulk d ≤ Rows.uptoBulkAll l
  | [], h => by cases h
  | x :: r, h => by
    unfold Rows.uptoBulkAll
    rcases List.mem_cons.1 h with rfl | h
    · omega
    · have := up_mem h; omega
theorem up_len {H : Type} : ∀ (l : List (DataW H)), l.length ≤ Rows.uptoBulkAll l
  | [] => by simp
  | x :: r => by
    unfold Rows.uptoBulkAll
    have := up_one x
    have := up_len r
    rw [List.length_cons]
    omega
theorem up_all {H : Type} {l : List (DataW H)} (hk : Rows.uptoSmall H l = true) : Rows.uptoBulkAll l ≤ 1048576 := of_decide_eq_true hk
theorem up_arg {H : Type} {l : List (DataW H)} (hk : Rows.uptoSmall H l = true) {d : DataW H} (h : d ∈ l) : Rows.uptoBulk d ≤ 1048576 := Nat.le_trans (up_mem h) (up_all hk)

/-- a list of values that came in, with what its data's bulk bounds -/
theorem open_vals3 {H : Type} {enc : TypeId × Value → H} {W : World} {base b0 : Nat} {r : Reach} {v : Value} {d : DataW H} {p : List MemPlace}
    (o : Value.okWide Try.prog W r b0 23 v) (h : DataW.Trod enc Try.prog W base (fun _ => true) true 23 v d p) (hb : Rows.uptoBulk d ≤ 1048576) :
    ∃ (a : Option Addr) (len cap b off : Nat) (kf nf : Nat → Int) (sf : Nat → ByteArray), v = .slice a len cap ∧ len ≤ cap ∧ cap ≤ 1048576 ∧ (len = 0 ∨ a = some ⟨b, off, none⟩) ∧ IsV W b off len kf nf sf ∧
      (∀ i, i < len → InI (nf i) ∧ (sf i).size ≤ 1048576) ∧ ((a = none ∧ len = 0 ∧ cap = 0) ∨ ∃ ad, a = some ad ∧ (0 < len → ad = ⟨b, off, none⟩)) := by
  obtain ⟨a, len, cap, b, off, kf, nf, sf, rfl, h1, h2, h3, h4, h5⟩ := open_vals o h
  obtain ⟨fuel, hf⟩ := h
  rcases Go.Deep.open_slice Try.underlying23 hf with ⟨hcs, hx⟩ | ⟨a', len', cap', m, n, D, Pl, hcs, hbb, hl, hm, hmm, hx, hi⟩
  · simp [Value.cells] at hcs
    obtain ⟨rfl, rfl, rfl⟩ := hcs
    exact ⟨_, _, _, b, off, kf, nf, sf, rfl, h1, by decide, h3, h4, fun i hi => absurd hi (by omega), .inl ⟨rfl, rfl, rfl⟩⟩
  · simp [Value.cells] at hcs
    obtain ⟨rfl, rfl, rfl⟩ := hcs
    simp only [if_true] at hmm
    subst hmm
    simp only [Prod.mk.injEq] at hx
    obtain ⟨rfl, -⟩ := hx
    have hbs : Rows.uptoBulkAll ((List.range len).map D) + Rows.uptoBulkAll ((List.range (m - len)).map fun j => D (len + j)) + 1 ≤ 1048576 := by
      have e : Rows.uptoBulk (DataW.slice ((List.range len).map D) ((List.range (m - len)).map fun j => D (len + j))) = _ := rfl
      unfold Rows.uptoBulk at hb
      exact hb
    have l1 := up_len ((List.range len).map D)
    have l2 := up_len ((List.range (m - len)).map fun j => D (len + j))
    rw [List.length_map, List.length_range] at l1 l2
    refine ⟨_, _, _, b, off, kf, nf, sf, rfl, h1, by omega, h3, h4, ?_, .inr ⟨_, rfl, fun h0 => by rcases h3 with g | g; omega; injection g⟩⟩
    rw [cellsV] at hi
    intro i hil
    obtain rfl : a' = ⟨b, off, none⟩ := by
      rcases h3 with g | g
      · omega
      · injection g
    have ea : ∀ j, (⟨b, off, none⟩ : Addr).add j = ⟨b, off + j, none⟩ := by intro j; unfold Addr.add; split <;> simp_all
    obtain ⟨cs', hc, ht⟩ := hi i (by omega)
    obtain ⟨y0, y1, y2, n', hy, hlen, g0, g1, g2⟩ := Go.Deep.trod_struct3 Try.underlying43 ht
    rw [cellsV] at hlen
    obtain ⟨_, hcl, hat⟩ := World.cells?_some hc
    match cs', hlen with
    | [c0, c1, c2], _ =>
      obtain ⟨k, e0, -, -⟩ := DataW.trod_int Try.underlying3 g0
      obtain ⟨q, e1, -, wq⟩ := DataW.trod_int Try.underlying2 g1
      obtain ⟨s, e2, ds, ws⟩ := DataW.trod_string Try.underlying9 g2
      simp [cells_int, cells_int64, cells_string] at e0 e1 e2
      subst e0 e1 e2
      have u1 := hat 1 (by decide)
      have u2 := hat 2 (by decide)
      rw [Go.Deep.add_add, ea, ← Nat.add_assoc] at u1 u2
      have v1 := h4.c1 i hil
      have v2 := h4.c2 i hil
      rw [u1] at v1
      rw [u2] at v2
      simp at v1 v2
      rw [← v1, ← v2]
      refine ⟨bounds_i64 wq, ?_⟩
      have hD : D i = DataW.agg [y0.1, y1.1, y2.1] := congrArg Prod.fst hy
      have m1 := up_mem (d := D i) (l := (List.range len).map D) (List.mem_map.2 ⟨i, List.mem_range.2 hil, rfl⟩)
      have m2 := up_mem (d := y2.1) (l := [y0.1, y1.1, y2.1]) (by simp)
      have m3 : Rows.uptoBulk y2.1 = s.data.toList.length + 1 := by rw [ds]; simp [Rows.uptoBulk]
      have m4 : Rows.uptoBulk (D i) = Rows.uptoBulkAll [y0.1, y1.1, y2.1] + 1 := by rw [hD]; simp [Rows.uptoBulk]
      have m5 : s.data.toList.length = s.size := by rw [Array.length_toList]; rfl
      omega

theorem cells_u8 : Try.prog.cellsOf 5 = 1 := by kernel_rfl
def cNat : Option Value → Nat | some (.int _ n) => n.toNat | _ => 0
/-- a row of bytes that came in -/
theorem open_bytes {H : Type} {enc : TypeId × Value → H} {W : World} {base b0 : Nat} {r : Reach} {v : Value} {d : DataW H} {p : List MemPlace}
    (o : Value.okWide Try.prog W r b0 27 v) (h : DataW.Trod enc Try.prog W base (fun _ => true) true 27 v d p) (hb : Rows.uptoBulk d ≤ 1048576) :
    ∃ (a : Option Addr) (l : List Nat) (cap b off : Nat), v = .slice a l.length cap ∧ l.length ≤ cap ∧ cap ≤ 1048576 ∧ (l.length = 0 ∨ a = some ⟨b, off, none⟩) ∧ IsB W b off l ∧ ((a = none ∧ l.length = 0 ∧ cap = 0) ∨ ∃ ad, a = some ad ∧ (0 < l.length → ad = ⟨b, off, none⟩)) := by
  obtain ⟨a, len, cap, rfl⟩ := okWide_slice Try.underlying27 o
  obtain ⟨fuel, hf⟩ := h
  rcases Go.Deep.open_slice Try.underlying27 hf with ⟨hcs, hx⟩ | ⟨a', len', cap', m, n, D, Pl, hcs, hbb, hl, hm, hmm, hx, hi⟩
  · simp [Value.cells] at hcs
    obtain ⟨rfl, rfl, rfl⟩ := hcs
    exact ⟨none, [], 0, 0, 0, rfl, Nat.le_refl _, by decide, .inl rfl, ⟨fun h => absurd h (by simp), fun i x hx => absurd hx (by simp), fun x hx => absurd hx (by simp)⟩, .inl ⟨rfl, rfl, rfl⟩⟩
  · simp [Value.cells] at hcs
    obtain ⟨rfl, rfl, rfl⟩ := hcs
    simp only [if_true] at hmm
    subst hmm
    simp only [Prod.mk.injEq] at hx
    obtain ⟨rfl, -⟩ := hx
    have hbs : Rows.uptoBulkAll ((List.range len).map D) + Rows.uptoBulkAll ((List.range (m - len)).map fun j => D (len + j)) + 1 ≤ 1048576 := by
      unfold Rows.uptoBulk at hb
      exact hb
    have l1 := up_len ((List.range len).map D)
    have l2 := up_len ((List.range (m - len)).map fun j => D (len + j))
    rw [List.length_map, List.length_range] at l1 l2
    rw [cells_u8] at hi
    have hcell : ∀ i, i < len → ∃ t : Int, W.cell? (a'.add i) = some (.int .u8 t) ∧ 0 ≤ t ∧ t < 256 := by
      intro i hil
      obtain ⟨cs', hc, ht⟩ := hi i (by omega)
      obtain ⟨_, hcl, hat⟩ := World.cells?_some hc
      obtain ⟨k, e0, -, wk⟩ := DataW.trod_int Try.underlying5 ht
      subst e0
      have := hat 0 (by decide)
      have hw : 0 ≤ k ∧ k ≤ 255 := by simpa [Lit.wf, IntKind.min, IntKind.max, IntKind.signed, IntKind.bits] using wk
      exact ⟨k, by simpa [Addr.add] using this, by omega, by omega⟩
    by_cases h0 : len = 0
    · subst h0
      exact ⟨_, [], m, 0, 0, rfl, hl, by omega, .inl rfl, ⟨fun h => absurd h (by simp), fun i x hx => absurd hx (by simp), fun x hx => absurd hx (by simp)⟩, .inr ⟨_, rfl, fun h => absurd h (by simp)⟩⟩
    · have hsp : a'.spot = none := by
        obtain ⟨k, c, -⟩ := hcell 0 (by omega)
        simpa [Addr.add] using World.cell?_spot c
      obtain ⟨b, off, spot⟩ := a'
      simp only at hsp
      subst hsp
      have ea : ∀ j, (⟨b, off, none⟩ : Addr).add j = ⟨b, off + j, none⟩ := by intro j; unfold Addr.add; split <;> simp_all
      have hlt : b < W.heap.size := by
        obtain ⟨k, c, -⟩ := hcell 0 (by omega)
        rw [ea] at c
        exact World.block_lt_of_cell? W _ c
      obtain ⟨l, el⟩ : ∃ l, (List.range len).map (fun i => cNat (W.cell? ⟨b, off + i, none⟩)) = l := ⟨_, rfl⟩
      have hll : l.length = len := by rw [← el]; simp
      have hat : ∀ (i x : Nat), l[i]? = some x → W.cell? ⟨b, off + i, none⟩ = some (.int .u8 (x : Int)) ∧ x < 256 := by
        intro i x hx
        have hil : i < len := by rw [← hll]; exact (List.getElem?_eq_some_iff.1 hx).1
        rw [← el, List.getElem?_map, List.getElem?_range hil] at hx
        obtain ⟨t, c, t0, t1⟩ := hcell i hil
        rw [ea] at c
        simp only [Option.map_some, Option.some.injEq] at hx
        rw [c] at hx
        simp only [cNat] at hx
        rw [c]
        refine ⟨?_, by omega⟩
        congr 2
        omega
      refine ⟨some ⟨b, off, none⟩, l, m, b, off, by rw [hll], by omega, by omega, .inr rfl, ⟨fun _ => hlt, fun i x hx => (hat i x hx).1, fun x hx => ?_⟩, .inr ⟨_, rfl, fun _ => rfl⟩⟩
      obtain ⟨i, hi⟩ := List.getElem?_of_mem hx
      exact (hat i x hi).2

/-- append of a row of bytes that came in -/
theorem wp_copyA {ops : Array Oper} {rest : List Oper} {o : Oper} {a : Act} {w : World} {Q : Exit → Act → World → Prop} (hgd : o.guard = none) (s x : Operand)
    (ho : o.op = .call { callee := .builtin .append, args := #[s, x], argTypes := #[27, 27] })
    (base : Nat) (v : Value) (l : List Nat) (hs : a.eval s = v) (hown : OwB w base v l) (A : Option Addr) (c : Nat) (r : List Nat) (hx : a.eval x = .slice A r.length c)
    (b off : Nat) (hN : (A = none ∧ r.length = 0 ∧ c = 0) ∨ ∃ ad, A = some ad ∧ (0 < r.length → ad = ⟨b, off, none⟩)) (hr : IsB w b off r) (hsz : l.length + r.length ≤ 70368744177664) (hbase : base ≤ w.heap.size)
    (h : ∀ v' w', OwB w' base v' (l ++ r) → w.grownBy w' v.ownBlock → wpList Try.prog ops Q rest (a.put o.dst v') w') : wpList Try.prog ops Q (o :: rest) a w := by
  rcases hN with ⟨rfl, h0, rfl⟩ | ⟨ad, rfl, had⟩
  · have hr0 : r = [] := List.length_eq_zero_iff.1 h0
    subst hr0
    obtain ⟨i0, hi, hz0, hz1, hz2⟩ := info_parts infoB
    refine wpList_append_own_none hgd s x _ ho base 5 i0 1 Try.underlying27 hi v l.length (bcells l) hs hown.1 hx (h v w ?_ ⟨rfl, rfl, rfl, Nat.le_refl _, fun _ _ _ => rfl⟩)
    rw [List.append_nil]
    exact hown
  · refine wp_push hgd s x ho base v l hs hown ad r.length c r hx rfl (fun j u hj => ?_) hsz hbase h
    have hj2 : j < (bcells r).length := (List.getElem?_eq_some_iff.1 hj).1
    rw [bcells_length] at hj2
    rw [had (by omega)]
    have ea : (⟨b, off, none⟩ : Addr).add j = ⟨b, off + j, none⟩ := by unfold Addr.add; split <;> simp_all
    rw [ea]
    have hx2 : r[j]? = some (r[j]'hj2) := List.getElem?_eq_getElem hj2
    simp only [bcells, List.getElem?_map, hx2, Option.map_some, Option.some.injEq] at hj
    rw [← hj]
    exact hr.c j _ hx2
theorem str_arg {w : World} {A : Option Addr} {b off c : Nat} {r : List Nat} (hN : r.length = 0 ∨ A = some ⟨b, off, none⟩) (h0 : A = none → r.length = 0) (hr : IsB w b off r) : (convert 27 9 (.slice A r.length c)).run Try.prog w = .ok (.string (strB r)) w := by
  cases A with
  | none =>
    have : r = [] := List.length_eq_zero_iff.1 (h0 rfl)
    subst this
    exact run_convert_bytes_nil w 27 5 Try.underlying27 Try.underlying5 _ _ 9 Try.underlying9
  | some ad =>
    rcases hN with h | h
    · have : r = [] := List.length_eq_zero_iff.1 h
      subst this
      rw [run_convert_bytes_string w 27 9 5 (some ad) _ c Try.underlying27 Try.underlying5 Try.underlying9]
      exact run_bytesToString w ad 0 c [] (by simp [loadCells, loadCellsFrom, Sem.run_pure])
    · injection h with h
      subst h
      refine run_convert_bytes_arg w 27 5 Try.underlying27 Try.underlying5 b off r.length c (r.map fun n : Nat => (n : Int)) (by simp) (fun i hi => ?_) 9 Try.underlying9
      have hx2 : r[i]? = some (r[i]'hi) := List.getElem?_eq_getElem hi
      rw [hr.c i _ hx2]
      simp [List.getD_eq_getElem?_getD, List.getElem?_map, hx2]
theorem bytes_made (w : World) : OwB (w.alloc (.cells #[] 5)) w.heap.size (.slice (some ⟨w.heap.size, 0, none⟩) 0 0) [] := ⟨World.ownsRow_made w #[] 0 (Nat.le_refl _) (by decide) rfl, by simp⟩

end Go.Proofs.Ytpknoclnmhomiab
