/-
  A plan that came in.
  Conditions: none.
-/
import Derived.Test.YtgndbhgpdcelpaaDoorCv18
import Derived.Deep.Slices
import Derived.Deep.Fields
import Derived.Deep.Strs
import Derived.Lib.SmallJoins
namespace Go.Proofs.YtgndbhgpdcelpaaDoor
set_option maxRecDepth 100000
open Go.RowKit Go.Joins Go.ChangeShapes Go.WideShapes
set_option linter.unusedVariables false
set_option linter.unusedSimpArgs false

theorem up_one {H : Type} (d : DataW H) : 1 ≤ Rows.uptoBulk d := by
  cases d with
  | lit l => cases l <;> simp [Rows.uptoBulk]
  | _ => simp [Rows.uptoBulk]
theorem up_mem {H : Type} {d : DataW H} : ∀ {l : List (DataW H)}, d ∈ l → Rows.uptoBulk d ≤ Rows.uptoBulkAll l
  | [], h => by cases h
  | x :: r, h => by
    unfold Rows.uptoBulkAll
    rcases List.mem_cons.1 h with rfl | h
    · omega
    · have := up_mem h; omega
theorem up_many {H : Type} (k : Nat) : ∀ (l : List (DataW H)), (∀ d ∈ l, k ≤ Rows.uptoBulk d) → l.length * k ≤ Rows.uptoBulkAll l
  | [], _ => by simp
  | x :: r, h => by
    unfold Rows.uptoBulkAll
    have h1 := h x (List.mem_cons_self ..)
    have h2 := up_many k r fun d hd => h d (List.mem_cons_of_mem _ hd)
    rw [List.length_cons, Nat.add_mul, Nat.one_mul]
    omega
theorem up_all {H : Type} {l : List (DataW H)} (hk : Rows.uptoSmall H l = true) : Rows.uptoBulkAll l ≤ 1048576 := of_decide_eq_true hk
theorem up_arg {H : Type} {l : List (DataW H)} (hk : Rows.uptoSmall H l = true) {d : DataW H} (h : d ∈ l) : Rows.uptoBulk d ≤ 1048576 := Nat.le_trans (up_mem h) (up_all hk)
theorem cells_in : Tryd.prog.cellsOf 33 = 14 := by kernel_rfl
theorem cells_pl : Tryd.prog.cellsOf 25 = 2 := by kernel_rfl
theorem cells_i : Tryd.prog.cellsOf 3 = 1 := by kernel_rfl
theorem cells_b : Tryd.prog.cellsOf 4 = 1 := by kernel_rfl
theorem cells_s : Tryd.prog.cellsOf 9 = 1 := by kernel_rfl
theorem cells_lc : Tryd.prog.cellsOf 30 = 1 := by kernel_rfl
theorem cells_lb : Tryd.prog.cellsOf 31 = 1 := by kernel_rfl
theorem cells_li : Tryd.prog.cellsOf 23 = 1 := by kernel_rfl
theorem list14 {α : Type} {l : List α} (h : l.length = 14) : ∃ a b c d e f g i j k m n o p, l = [a, b, c, d, e, f, g, i, j, k, m, n, o, p] := by
  match l, h with
  | [a, b, c, d, e, f, g, i, j, k, m, n, o, p], _ => exact ⟨a, b, c, d, e, f, g, i, j, k, m, n, o, p, rfl⟩
section
variable {H : Type} {enc : TypeId × Value → H} {W : World} {base : Nat}
/-- a cell that reads as a slice is one -/
theorem sl_cell {t e : TypeId} (ht : Tryd.prog.underlying t = some (.slice e)) {fuel : Nat} {q : Value} {x : DataW H × List MemPlace} (h : DataW.trod enc Tryd.prog W base (fun _ => true) true fuel t [q] = some x) : ∃ s : SlV, q = .slice s.a s.n s.c := by
  rcases Go.Deep.open_slice ht h with ⟨hcs, -⟩ | ⟨a', len', cap', m, n, D, Pl, hcs, -⟩
  · simp [Value.cells] at hcs
    exact ⟨⟨none, 0, 0⟩, hcs⟩
  · simp [Value.cells] at hcs
    exact ⟨⟨some a', len', cap'⟩, hcs⟩
/-- cells that read as an instruction -/
theorem open_in {fuel : Nat} {cs : List Value} {y : DataW H × List MemPlace} (h : DataW.trod enc Tryd.prog W base (fun _ => true) true fuel 33 cs = some y) : ∃ x : Ins, cs = x.enc ∧ 14 ≤ Rows.uptoBulk y.1 := by
  obtain ⟨xs, n, _, rfl, hl, hlen, hf⟩ := DataW.trod_struct Tryd.underlying33 h
  rw [cells_in] at hl
  obtain ⟨q0, q1, q2, q3, q4, q5, q6, q7, q8, q9, q10, q11, q12, q13, rfl⟩ := list14 hl
  match xs, hlen with
  | [y0, y1, y2, y3, y4, y5, y6, y7, y8, y9, y10, y11, y12, y13], _ =>
    have c0 : DataW.trod enc Tryd.prog W base (fun _ => true) true n 3 (([q0, q1, q2, q3, q4, q5, q6, q7, q8, q9, q10, q11, q12, q13].drop 0).take (Tryd.prog.cellsOf 3)) = some y0 := hf 0 _ rfl
    rw [cells_i] at c0
    have g0 : DataW.trod enc Tryd.prog W base (fun _ => true) true n 3 [q0] = some y0 := c0
    have c1 : DataW.trod enc Tryd.prog W base (fun _ => true) true n 3 (([q0, q1, q2, q3, q4, q5, q6, q7, q8, q9, q10, q11, q12, q13].drop 1).take (Tryd.prog.cellsOf 3)) = some y1 := hf 1 _ rfl
    rw [cells_i] at c1
    have g1 : DataW.trod enc Tryd.prog W base (fun _ => true) true n 3 [q1] = some y1 := c1
    have c2 : DataW.trod enc Tryd.prog W base (fun _ => true) true n 3 (([q0, q1, q2, q3, q4, q5, q6, q7, q8, q9, q10, q11, q12, q13].drop 2).take (Tryd.prog.cellsOf 3)) = some y2 := hf 2 _ rfl
    rw [cells_i] at c2
    have g2 : DataW.trod enc Tryd.prog W base (fun _ => true) true n 3 [q2] = some y2 := c2
    have c3 : DataW.trod enc Tryd.prog W base (fun _ => true) true n 3 (([q0, q1, q2, q3, q4, q5, q6, q7, q8, q9, q10, q11, q12, q13].drop 3).take (Tryd.prog.cellsOf 3)) = some y3 := hf 3 _ rfl
    rw [cells_i] at c3
    have g3 : DataW.trod enc Tryd.prog W base (fun _ => true) true n 3 [q3] = some y3 := c3
    have c4 : DataW.trod enc Tryd.prog W base (fun _ => true) true n 3 (([q0, q1, q2, q3, q4, q5, q6, q7, q8, q9, q10, q11, q12, q13].drop 4).take (Tryd.prog.cellsOf 3)) = some y4 := hf 4 _ rfl
    rw [cells_i] at c4
    have g4 : DataW.trod enc Tryd.prog W base (fun _ => true) true n 3 [q4] = some y4 := c4
    have c5 : DataW.trod enc Tryd.prog W base (fun _ => true) true n 9 (([q0, q1, q2, q3, q4, q5, q6, q7, q8, q9, q10, q11, q12, q13].drop 5).take (Tryd.prog.cellsOf 9)) = some y5 := hf 5 _ rfl
    rw [cells_s] at c5
    have g5 : DataW.trod enc Tryd.prog W base (fun _ => true) true n 9 [q5] = some y5 := c5
    have c6 : DataW.trod enc Tryd.prog W base (fun _ => true) true n 3 (([q0, q1, q2, q3, q4, q5, q6, q7, q8, q9, q10, q11, q12, q13].drop 6).take (Tryd.prog.cellsOf 3)) = some y6 := hf 6 _ rfl
    rw [cells_i] at c6
    have g6 : DataW.trod enc Tryd.prog W base (fun _ => true) true n 3 [q6] = some y6 := c6
    have c7 : DataW.trod enc Tryd.prog W base (fun _ => true) true n 30 (([q0, q1, q2, q3, q4, q5, q6, q7, q8, q9, q10, q11, q12, q13].drop 7).take (Tryd.prog.cellsOf 30)) = some y7 := hf 7 _ rfl
    rw [cells_lc] at c7
    have g7 : DataW.trod enc Tryd.prog W base (fun _ => true) true n 30 [q7] = some y7 := c7
    have c8 : DataW.trod enc Tryd.prog W base (fun _ => true) true n 30 (([q0, q1, q2, q3, q4, q5, q6, q7, q8, q9, q10, q11, q12, q13].drop 8).take (Tryd.prog.cellsOf 30)) = some y8 := hf 8 _ rfl
    rw [cells_lc] at c8
    have g8 : DataW.trod enc Tryd.prog W base (fun _ => true) true n 30 [q8] = some y8 := c8
    have c9 : DataW.trod enc Tryd.prog W base (fun _ => true) true n 4 (([q0, q1, q2, q3, q4, q5, q6, q7, q8, q9, q10, q11, q12, q13].drop 9).take (Tryd.prog.cellsOf 4)) = some y9 := hf 9 _ rfl
    rw [cells_b] at c9
    have g9 : DataW.trod enc Tryd.prog W base (fun _ => true) true n 4 [q9] = some y9 := c9
    have c10 : DataW.trod enc Tryd.prog W base (fun _ => true) true n 4 (([q0, q1, q2, q3, q4, q5, q6, q7, q8, q9, q10, q11, q12, q13].drop 10).take (Tryd.prog.cellsOf 4)) = some y10 := hf 10 _ rfl
    rw [cells_b] at c10
    have g10 : DataW.trod enc Tryd.prog W base (fun _ => true) true n 4 [q10] = some y10 := c10
    have c11 : DataW.trod enc Tryd.prog W base (fun _ => true) true n 30 (([q0, q1, q2, q3, q4, q5, q6, q7, q8, q9, q10, q11, q12, q13].drop 11).take (Tryd.prog.cellsOf 30)) = some y11 := hf 11 _ rfl
    rw [cells_lc] at c11
    have g11 : DataW.trod enc Tryd.prog W base (fun _ => true) true n 30 [q11] = some y11 := c11
    have c12 : DataW.trod enc Tryd.prog W base (fun _ => true) true n 3 (([q0, q1, q2, q3, q4, q5, q6, q7, q8, q9, q10, q11, q12, q13].drop 12).take (Tryd.prog.cellsOf 3)) = some y12 := hf 12 _ rfl
    rw [cells_i] at c12
    have g12 : DataW.trod enc Tryd.prog W base (fun _ => true) true n 3 [q12] = some y12 := c12
    have c13 : DataW.trod enc Tryd.prog W base (fun _ => true) true n 31 (([q0, q1, q2, q3, q4, q5, q6, q7, q8, q9, q10, q11, q12, q13].drop 13).take (Tryd.prog.cellsOf 31)) = some y13 := hf 13 _ rfl
    rw [cells_lb] at c13
    have g13 : DataW.trod enc Tryd.prog W base (fun _ => true) true n 31 [q13] = some y13 := c13
    obtain ⟨k0, e0, -, -⟩ := DataW.trod_int Tryd.underlying3 g0
    obtain ⟨k1, e1, -, -⟩ := DataW.trod_int Tryd.underlying3 g1
    obtain ⟨k2, e2, -, -⟩ := DataW.trod_int Tryd.underlying3 g2
    obtain ⟨k3, e3, -, -⟩ := DataW.trod_int Tryd.underlying3 g3
    obtain ⟨k4, e4, -, -⟩ := DataW.trod_int Tryd.underlying3 g4
    obtain ⟨s5, e5, -, -⟩ := DataW.trod_string Tryd.underlying9 g5
    obtain ⟨k6, e6, -, -⟩ := DataW.trod_int Tryd.underlying3 g6
    obtain ⟨s7, e7⟩ := sl_cell Tryd.underlying30 g7
    obtain ⟨s8, e8⟩ := sl_cell Tryd.underlying30 g8
    obtain ⟨b9, e9, -⟩ := DataW.trod_bool Tryd.underlying4 g9
    obtain ⟨b10, e10, -⟩ := DataW.trod_bool Tryd.underlying4 g10
    obtain ⟨s11, e11⟩ := sl_cell Tryd.underlying30 g11
    obtain ⟨k12, e12, -, -⟩ := DataW.trod_int Tryd.underlying3 g12
    obtain ⟨s13, e13⟩ := sl_cell Tryd.underlying31 g13
    simp at e0 e1 e2 e3 e4 e5 e6 e9 e10 e12
    refine ⟨⟨k0, k1, k2, k3, k4, s5, k6, s7, s8, b9, b10, s11, k12, s13⟩, ?_, ?_⟩
    · rw [e0, e1, e2, e3, e4, e5, e6, e7, e8, e9, e10, e11, e12, e13]
      rfl
    · have z0 := up_one y0.1
      have z1 := up_one y1.1
      have z2 := up_one y2.1
      have z3 := up_one y3.1
      have z4 := up_one y4.1
      have z5 := up_one y5.1
      have z6 := up_one y6.1
      have z7 := up_one y7.1
      have z8 := up_one y8.1
      have z9 := up_one y9.1
      have z10 := up_one y10.1
      have z11 := up_one y11.1
      have z12 := up_one y12.1
      have z13 := up_one y13.1
      simp only [List.map, Rows.uptoBulk, Rows.uptoBulkAll]
      omega
end
/-- a plan that came in -/
theorem open_plan {H : Type} {enc : TypeId × Value → H} {W : World} {base b0 : Nat} {r : Reach} {v : Value} {d : DataW H} {p : List MemPlace}
    (o : Value.okWide Tryd.prog W r b0 25 v) (h : DataW.Trod enc Tryd.prog W base (fun _ => true) true 25 v d p) (hb : Rows.uptoBulk d ≤ 1048576) :
    ∃ tb a cap, ∃ q : List Ins, v = .agg #[.string tb, .slice a q.length cap] ∧ RowA W a q ∧ q.length ≤ 100000 ∧ q.length ≤ cap := by
  obtain ⟨cs, rfl, hsz⟩ := okWide_struct Tryd.underlying25 o
  obtain ⟨fuel, hf⟩ := h
  obtain ⟨y0, y1, n', hy, hlen, g0, g1⟩ := trod_struct2 Tryd.underlying25 hf
  rw [cells_pl] at hlen
  have hcs : (Value.agg cs).cells.toList = cs.toList := by simp [Value.cells]
  rw [hcs] at hlen g0 g1
  obtain ⟨u0, u1, hu⟩ : ∃ u0 u1, cs.toList = [u0, u1] := by
    match cs.toList, hlen with
    | [a, b], _ => exact ⟨a, b, rfl⟩
  obtain rfl : cs = #[u0, u1] := by rw [← Array.toArray_toList (xs := cs), hu]
  have g0' : DataW.trod enc Tryd.prog W base (fun _ => true) true n' 9 (([u0, u1].drop 0).take (Tryd.prog.cellsOf 9)) = some y0 := g0
  have g1' : DataW.trod enc Tryd.prog W base (fun _ => true) true n' 23 (([u0, u1].drop 1).take (Tryd.prog.cellsOf 23)) = some y1 := g1
  rw [cells_s] at g0'
  rw [cells_li] at g1'
  obtain ⟨tb, e0, -, -⟩ := DataW.trod_string Tryd.underlying9 g0'
  have e0' : [u0] = [Value.string tb] := e0
  injection e0' with e0'
  subst e0'
  have g1'' : DataW.trod enc Tryd.prog W base (fun _ => true) true n' 23 [u1] = some y1 := g1'
  have hb1 : Rows.uptoBulk y1.1 ≤ 1048576 := by
    have hy' : d = .agg [y0.1, y1.1] := congrArg Prod.fst hy
    rw [hy'] at hb
    simp only [Rows.uptoBulk, Rows.uptoBulkAll] at hb
    omega
  rcases Go.Deep.open_slice Tryd.underlying23 g1'' with ⟨hc, hx⟩ | ⟨a', len, cap', m, n, D, Pl, hc, hbb, hl, hm, hmm, hx, hi⟩
  · simp [Value.cells] at hc
    subst hc
    exact ⟨tb, none, 0, [], rfl, RowA.nil _ _, by decide, by decide⟩
  · simp [Value.cells] at hc
    subst hc
    simp only [if_true] at hmm
    subst hmm
    rw [cells_in] at hi
    have hy1 : y1.1 = .slice ((List.range len).map D) ((List.range (m - len)).map fun j => D (len + j)) := by rw [hx]
    have hbs : Rows.uptoBulkAll ((List.range len).map D) + 1 ≤ 1048576 := by
      rw [hy1] at hb1
      simp only [Rows.uptoBulk] at hb1
      omega
    have hk : ∀ i, ∃ x : Ins, i < len → (∀ j u, x.enc[j]? = some u → W.cell? ((a'.add (i * 14)).add j) = some u) ∧ 14 ≤ Rows.uptoBulk (D i) := by
      intro i
      by_cases hil : i < len
      · obtain ⟨cs', hc, ht⟩ := hi i (by omega)
        obtain ⟨x, rfl, hz⟩ := open_in ht
        obtain ⟨_, hcl, hat⟩ := World.cells?_some hc
        refine ⟨x, fun _ => ⟨fun j u hj => ?_, hz⟩⟩
        have hj7 : j < 14 := by rw [← x.enc_len]; exact (List.getElem?_eq_some_iff.1 hj).1
        rw [hat j hj7]
        exact hj
      · exact ⟨⟨0, 0, 0, 0, 0, ⟨#[]⟩, 0, nS, nS, false, false, nS, 0, nS⟩, fun h => absurd h hil⟩
    obtain ⟨f, hfz⟩ := Classical.axiomOfChoice hk
    obtain ⟨l, hl0⟩ : ∃ l, (List.range len).map f = l := ⟨_, rfl⟩
    have hll : l.length = len := by rw [← hl0]; simp
    have l1 := up_many 14 ((List.range len).map D) fun d hd => by
      obtain ⟨i, hi', rfl⟩ := List.mem_map.1 hd
      exact (hfz i (List.mem_range.1 hi')).2
    rw [List.length_map, List.length_range] at l1
    have hat : ∀ i x, l[i]? = some x → i < len ∧ f i = x := fun i x hx => by
      have hil : i < len := by rw [← hll]; exact (List.getElem?_eq_some_iff.1 hx).1
      rw [← hl0, List.getElem?_map, List.getElem?_range hil] at hx
      exact ⟨hil, by simpa using hx⟩
    by_cases h0 : len = 0
    · have hnil : l = [] := List.eq_nil_of_length_eq_zero (by rw [hll, h0])
      exact ⟨tb, some a', m, l, by rw [hll], by rw [hnil]; exact RowA.nil _ _, by rw [hll]; omega, by rw [hll]; omega⟩
    · have hsp : a'.spot = none := by
        have c := (hfz 0 (by omega)).1 0 _ rfl
        have c2 := World.cell?_spot c
        simpa [Addr.add] using c2
      obtain ⟨b, off, spot⟩ := a'
      simp only at hsp
      subst hsp
      have ea : ∀ j, (⟨b, off, none⟩ : Addr).add j = ⟨b, off + j, none⟩ := by intro j; unfold Addr.add; split <;> simp_all
      have eb : ∀ j k, ((⟨b, off, none⟩ : Addr).add j).add k = ⟨b, off + j + k, none⟩ := by intro j k; rw [Go.Deep.add_add, ea, Nat.add_assoc]
      have hlt : b < W.heap.size := by
        have c := (hfz 0 (by omega)).1 0 _ rfl
        rw [eb] at c
        exact World.block_lt_of_cell? W _ c
      refine ⟨tb, _, _, l, by rw [hll], ⟨b, off, .inr rfl, fun _ => hlt, fun i x hx j u hu => ?_⟩, by rw [hll]; omega, by rw [hll]; omega⟩
      obtain ⟨h1, h2⟩ := hat i x hx
      have c := (hfz i h1).1 j u (by rw [h2]; exact hu)
      rw [eb] at c
      exact c

end Go.Proofs.YtgndbhgpdcelpaaDoor
