/-
  Texts of mine put together, in build order.
  Conditions: as each declaration says.
-/
import Derived.Deep.Slices
import Derived.Deep.Fields
import Derived.Deep.Strs
import Derived.Lib.SmallJoins
import Derived.Deep.RegionHeld3
import Derived.Test.YtelfinhpjokmdaaDoorZl7
namespace Go.Proofs.YtelfinhpjokmdaaDoor
set_option maxRecDepth 100000
open Go.RowKit Go.Joins Go.ChangeShapes Go.WideShapes
set_option linter.unusedVariables false
set_option linter.unusedSimpArgs false

theorem up_one {H : Type} (d : DataW H) : 1 ≤ Rows.uptoBulk d := by
  cases d with
  | lit l => cases l <;> simp [Rows.uptoBulk]
  | _ => simp [Rows.uptoBulk]
theorem up_mem {H : Type} {d : DataW H} : ∀ {l : List (DataW H)}, d ∈ l → Rows.uptoBulk d ≤ Rows.uptoBulkAll l
  | [], h => by cases h
  | x :: r, h => by
    unfold Rows.uptoBulkAll
    rcases List.mem_cons.1 h with rfl | h
    · omega
    · have := up_mem h; omega
theorem up_len {H : Type} : ∀ (l : List (DataW H)), l.length ≤ Rows.uptoBulkAll l
  | [] => by simp
  | x :: r => by
    unfold Rows.uptoBulkAll
    have := up_one x
    have := up_len r
    rw [List.length_cons]
    omega
theorem up_many {H : Type} (k : Nat) : ∀ (l : List (DataW H)), (∀ d ∈ l, k ≤ Rows.uptoBulk d) → l.length * k ≤ Rows.uptoBulkAll l
  | [], _ => by simp
  | x :: r, h => by
    unfold Rows.uptoBulkAll
    have h1 := h x (List.mem_cons_self ..)
    have h2 := up_many k r fun d hd => h d (List.mem_cons_of_mem _ hd)
    rw [List.length_cons, Nat.add_mul, Nat.one_mul]
    omega
theorem up_all {H : Type} {l : List (DataW H)} (hk : Rows.uptoSmall H l = true) : Rows.uptoBulkAll l ≤ 1048576 := of_decide_eq_true hk
theorem up_arg {H : Type} {l : List (DataW H)} (hk : Rows.uptoSmall H l = true) {d : DataW H} (h : d ∈ l) : Rows.uptoBulk d ≤ 1048576 := Nat.le_trans (up_mem h) (up_all hk)
theorem cells_io : Tryd.prog.cellsOf 3 = 1 := by kernel_rfl
theorem cells_so : Tryd.prog.cellsOf 9 = 1 := by kernel_rfl
/-- whole numbers that came in -/
structure IntA (W : World) (a : Option Addr) (l : List Int) : Prop where
  b : ∃ b off, (l = [] ∨ a = some ⟨b, off, none⟩) ∧ (0 < l.length → b < W.heap.size) ∧ ∀ i x, l[i]? = some x → W.cell? ⟨b, off + i, none⟩ = some (.int .i64 x)
theorem IntA.at {W : World} {a : Option Addr} {l : List Int} (h : IntA W a l) {i : Nat} {x : Int} (hx : l[i]? = some x) : ∃ b off, a = some ⟨b, off, none⟩ ∧ W.cell? ⟨b, off + i, none⟩ = some (.int .i64 x) := by
  obtain ⟨b, off, h1, h2, h3⟩ := h.b
  rcases h1 with rfl | h1
  · simp at hx
  · exact ⟨b, off, h1, h3 i x hx⟩
theorem IntA.below {W W1 : World} {a : Option Addr} {l : List Int} (h : IntA W a l) (hb : Below W.heap.size W W1) : IntA W1 a l := by
  obtain ⟨b, off, h1, h2, h3⟩ := h.b
  refine ⟨b, off, h1, fun h => Nat.lt_of_lt_of_le (h2 h) hb.size, fun i x hx => (hb.cell (p := ⟨b, off + i, none⟩) (h2 ?_)).trans (h3 i x hx)⟩
  cases l with
  | nil => simp at hx
  | cons y l => simp
theorem open_intsR {H : Type} {enc : TypeId × Value → H} {W : World} {base b0 : Nat} {r : Reach} {v : Value} {d : DataW H} {p : List MemPlace}
    (o : Value.okWide Tryd.prog W r b0 30 v) (h : DataW.Trod enc Tryd.prog W base (fun _ => true) true 30 v d p) (hb : Rows.uptoBulk d ≤ 1048576) :
    ∃ (a : Option Addr) (cap : Nat) (l : List Int), v = .slice a l.length cap ∧ l.length ≤ 1048576 ∧ IntA W a l ∧ ∀ x ∈ l, (Lit.int .i64 x).wf = true := by
  obtain ⟨a, len, cap, rfl⟩ := okWide_slice Tryd.underlying30 o
  obtain ⟨fuel, hf⟩ := h
  rcases Go.Deep.open_slice1 Tryd.underlying30 cells_io hf with ⟨hcs, hx⟩ | ⟨a', len', cap', m, n, V, D, Pl, hcs, hbb, hl, hm, hmm, hx, hi⟩
  · simp [Value.cells] at hcs
    obtain ⟨rfl, rfl, rfl⟩ := hcs
    exact ⟨none, 0, [], rfl, by decide, ⟨0, 0, .inl rfl, fun h => absurd h (by decide), fun i x hx => by simp at hx⟩, fun x hx => by cases hx⟩
  · simp [Value.cells] at hcs
    obtain ⟨rfl, rfl, rfl⟩ := hcs
    simp only [if_true] at hmm
    subst hmm
    simp only [Prod.mk.injEq] at hx
    obtain ⟨rfl, -⟩ := hx
    have hbs : Rows.uptoBulkAll ((List.range len).map D) + Rows.uptoBulkAll ((List.range (m - len)).map fun j => D (len + j)) + 1 ≤ 1048576 := by
      unfold Rows.uptoBulk at hb
      exact hb
    have l1 := up_len ((List.range len).map D)
    rw [List.length_map, List.length_range] at l1
    have hk : ∀ i, ∃ z : Int, i < len → V i = .int .i64 z ∧ (Lit.int .i64 z).wf = true := by
      intro i
      by_cases hil : i < len
      · obtain ⟨k, e0, -, e2⟩ := DataW.trod_int Tryd.underlying3 (hi i (by omega)).2
        injection e0 with e0
        exact ⟨k, fun _ => ⟨e0, e2⟩⟩
      · exact ⟨0, fun h => absurd h hil⟩
    obtain ⟨f, hfz⟩ := Classical.axiomOfChoice hk
    obtain ⟨l, hl0⟩ : ∃ l, (List.range len).map f = l := ⟨_, rfl⟩
    have hll : l.length = len := by rw [← hl0]; simp
    have hat : ∀ i x, l[i]? = some x → i < len ∧ f i = x := fun i x hx => by
      have hil : i < len := by rw [← hll]; exact (List.getElem?_eq_some_iff.1 hx).1
      rw [← hl0, List.getElem?_map, List.getElem?_range hil] at hx
      exact ⟨hil, by simpa using hx⟩
    have hwf : ∀ x ∈ l, (Lit.int .i64 x).wf = true := fun x hx => by
      obtain ⟨i, hi'⟩ := List.getElem?_of_mem hx
      obtain ⟨h1, h2⟩ := hat i x hi'
      rw [← h2]; exact (hfz i h1).2
    by_cases h0 : len = 0
    · have : l = [] := List.eq_nil_of_length_eq_zero (by rw [hll, h0])
      refine ⟨_, _, l, by rw [hll], by omega, ⟨0, 0, .inl this, fun h => absurd h (by rw [this]; decide), fun i x hx => by rw [this] at hx; simp at hx⟩, hwf⟩
    · have hsp : a'.spot = none := by
        have c := (hi 0 (by omega)).1
        simpa [Addr.add] using World.cell?_spot c
      obtain ⟨b, off, spot⟩ := a'
      simp only at hsp
      subst hsp
      have ea : ∀ j, (⟨b, off, none⟩ : Addr).add j = ⟨b, off + j, none⟩ := by intro j; unfold Addr.add; split <;> simp_all
      have hlt : b < W.heap.size := by
        have c := (hi 0 (by omega)).1
        rw [ea] at c
        exact World.block_lt_of_cell? W _ c
      refine ⟨_, _, l, by rw [hll], by omega, ⟨b, off, .inr rfl, fun _ => hlt, fun i x hx => ?_⟩, hwf⟩
      obtain ⟨h1, rfl⟩ := hat i x hx
      rw [← ea, ← (hfz i h1).1]
      exact (hi i (by omega)).1
/-- a step of a script -/
structure Op10 where
  kind : Int
  txn : Int
  mode : Int
  res : RS
/-- a script that came in -/
structure OpsA (W : World) (a : Option Addr) (l : List Op10) : Prop where
  b : ∃ b off, (l = [] ∨ a = some ⟨b, off, none⟩) ∧ (0 < l.length → b < W.heap.size) ∧ ∀ i x, l[i]? = some x → W.cell? ⟨b, off + i * 4, none⟩ = some (.int .i64 x.kind) ∧ W.cell? ⟨b, off + i * 4 + 1, none⟩ = some (.int .i64 x.txn) ∧ W.cell? ⟨b, off + i * 4 + 2, none⟩ = some (.int .i64 x.mode) ∧ W.cell? ⟨b, off + i * 4 + 3, none⟩ = some (.string ⟨x.res.toArray⟩)
theorem OpsA.at {W : World} {a : Option Addr} {l : List Op10} (h : OpsA W a l) {i : Nat} {x : Op10} (hx : l[i]? = some x) : ∃ b off, a = some ⟨b, off, none⟩ ∧ W.cell? ⟨b, off + i * 4, none⟩ = some (.int .i64 x.kind) ∧ W.cell? ⟨b, off + i * 4 + 1, none⟩ = some (.int .i64 x.txn) ∧ W.cell? ⟨b, off + i * 4 + 2, none⟩ = some (.int .i64 x.mode) ∧ W.cell? ⟨b, off + i * 4 + 3, none⟩ = some (.string ⟨x.res.toArray⟩) := by
  obtain ⟨b, off, h1, h2, h3⟩ := h.b
  rcases h1 with rfl | h1
  · simp at hx
  · exact ⟨b, off, h1, h3 i x hx⟩
theorem OpsA.below {W W1 : World} {a : Option Addr} {l : List Op10} (h : OpsA W a l) (hb : Below W.heap.size W W1) : OpsA W1 a l := by
  obtain ⟨b, off, h1, h2, h3⟩ := h.b
  refine ⟨b, off, h1, fun h => Nat.lt_of_lt_of_le (h2 h) hb.size, fun i x hx => ?_⟩
  have hl : b < W.heap.size := h2 (by
    cases l with
    | nil => simp at hx
    | cons y l => simp)
  obtain ⟨g0, g1, g2, g3⟩ := h3 i x hx
  exact ⟨(hb.cell (p := ⟨b, _, none⟩) hl).trans g0, (hb.cell (p := ⟨b, _, none⟩) hl).trans g1, (hb.cell (p := ⟨b, _, none⟩) hl).trans g2, (hb.cell (p := ⟨b, _, none⟩) hl).trans g3⟩
theorem cells_op10 : Tryd.prog.cellsOf 28 = 4 := by kernel_rfl
theorem open_ops10 {H : Type} {enc : TypeId × Value → H} {W : World} {base b0 : Nat} {r : Reach} {v : Value} {d : DataW H} {p : List MemPlace}
    (o : Value.okWide Tryd.prog W r b0 22 v) (h : DataW.Trod enc Tryd.prog W base (fun _ => true) true 22 v d p) (hb : Rows.uptoBulk d ≤ 1048576) :
    ∃ (a : Option Addr) (cap : Nat) (l : List Op10), v = .slice a l.length cap ∧ l.length * 5 ≤ 1048576 ∧ OpsA W a l ∧ ∀ x ∈ l, okB x.txn x.res := by
  obtain ⟨a, len, cap, rfl⟩ := okWide_slice Tryd.underlying22 o
  obtain ⟨fuel, hf⟩ := h
  rcases Go.Deep.open_slice Tryd.underlying22 hf with ⟨hcs, hx⟩ | ⟨a', len', cap', m, n, D, Pl, hcs, hbb, hl, hm, hmm, hx, hi⟩
  · simp [Value.cells] at hcs
    obtain ⟨rfl, rfl, rfl⟩ := hcs
    exact ⟨none, 0, [], rfl, by decide, ⟨0, 0, .inl rfl, fun h => absurd h (by decide), fun i x hx => by simp at hx⟩, fun x hx => by cases hx⟩
  · simp [Value.cells] at hcs
    obtain ⟨rfl, rfl, rfl⟩ := hcs
    simp only [if_true] at hmm
    subst hmm
    simp only [Prod.mk.injEq] at hx
    obtain ⟨rfl, -⟩ := hx
    rw [cells_op10] at hi
    have hbs : Rows.uptoBulkAll ((List.range len).map D) + Rows.uptoBulkAll ((List.range (m - len)).map fun j => D (len + j)) + 1 ≤ 1048576 := by
      unfold Rows.uptoBulk at hb
      exact hb
    have hk : ∀ i, ∃ x : Op10, i < len → (W.cell? (a'.add (i * 4)) = some (.int .i64 x.kind) ∧ W.cell? ((a'.add (i * 4)).add 1) = some (.int .i64 x.txn) ∧ W.cell? ((a'.add (i * 4)).add 2) = some (.int .i64 x.mode) ∧ W.cell? ((a'.add (i * 4)).add 3) = some (.string ⟨x.res.toArray⟩)) ∧ okB x.txn x.res ∧ 5 ≤ Rows.uptoBulk (D i) := by
      intro i
      by_cases hil : i < len
      · obtain ⟨cs', hc, ht⟩ := hi i (by omega)
        obtain ⟨y0, y1, y2, y3, n', hy, hlen, g0, g1, g2, g3⟩ := trod_struct4 Tryd.underlying28 ht
        rw [cells_op10] at hlen
        obtain ⟨_, hcl, hat⟩ := World.cells?_some hc
        match cs', hlen with
        | [q0, q1, q2, q3], _ =>
          obtain ⟨k0, e0, f0, -⟩ := DataW.trod_int Tryd.underlying3 g0
          obtain ⟨k1, e1, f1, w1⟩ := DataW.trod_int Tryd.underlying3 g1
          obtain ⟨k2, e2, f2, -⟩ := DataW.trod_int Tryd.underlying3 g2
          obtain ⟨s, e3, f3, w3⟩ := DataW.trod_string Tryd.underlying9 g3
          simp only [cells_io, cells_so] at e0 e1 e2 e3
          simp at e0 e1 e2 e3
          subst e0 e1 e2 e3
          have h1 := congrArg Prod.fst hy
          simp only at h1
          refine ⟨⟨k0, k1, k2, s.data.toList⟩, fun _ => ⟨⟨?_, hat 1 (by decide), hat 2 (by decide), by have := hat 3 (by decide); simpa using this⟩, ⟨w1, by simpa using w3⟩, ?_⟩⟩
          · have := hat 0 (by decide)
            simpa [Addr.add] using this
          · rw [h1, f0, f1, f2, f3]
            simp only [Rows.uptoBulk, Rows.uptoBulkAll]
            omega
      · exact ⟨⟨0, 0, 0, []⟩, fun h => absurd h hil⟩
    obtain ⟨f, hfz⟩ := Classical.axiomOfChoice hk
    have l1 := up_many 5 ((List.range len).map D) fun d hd => by
      obtain ⟨i, hi', rfl⟩ := List.mem_map.1 hd
      exact (hfz i (List.mem_range.1 hi')).2.2
    rw [List.length_map, List.length_range] at l1
    obtain ⟨l, hl0⟩ : ∃ l, (List.range len).map f = l := ⟨_, rfl⟩
    have hll : l.length = len := by rw [← hl0]; simp
    have hat : ∀ i x, l[i]? = some x → i < len ∧ f i = x := fun i x hx => by
      have hil : i < len := by rw [← hll]; exact (List.getElem?_eq_some_iff.1 hx).1
      rw [← hl0, List.getElem?_map, List.getElem?_range hil] at hx
      exact ⟨hil, by simpa using hx⟩
    have hwf : ∀ x ∈ l, okB x.txn x.res := fun x hx => by
      obtain ⟨i, hi'⟩ := List.getElem?_of_mem hx
      obtain ⟨h1, h2⟩ := hat i x hi'
      rw [← h2]; exact (hfz i h1).2.1
    by_cases h0 : len = 0
    · have : l = [] := List.eq_nil_of_length_eq_zero (by rw [hll, h0])
      exact ⟨_, _, l, by rw [hll], by omega, ⟨0, 0, .inl this, fun h => absurd h (by rw [this]; decide), fun i x hx => by rw [this] at hx; simp at hx⟩, hwf⟩
    · have hsp : a'.spot = none := by
        have c := (hfz 0 (by omega)).1.1
        simpa [Addr.add] using World.cell?_spot c
      obtain ⟨b, off, spot⟩ := a'
      simp only at hsp
      subst hsp
      have ea : ∀ j, (⟨b, off, none⟩ : Addr).add j = ⟨b, off + j, none⟩ := by intro j; unfold Addr.add; split <;> simp_all
      have eb : ∀ j k, ((⟨b, off, none⟩ : Addr).add j).add k = ⟨b, off + j + k, none⟩ := by intro j k; rw [Go.Deep.add_add, ea, Nat.add_assoc]
      have hlt : b < W.heap.size := by
        have c := (hfz 0 (by omega)).1.1
        rw [ea] at c
        exact World.block_lt_of_cell? W _ c
      refine ⟨_, _, l, by rw [hll], by omega, ⟨b, off, .inr rfl, fun _ => hlt, fun i x hx => ?_⟩, hwf⟩
      obtain ⟨h1, rfl⟩ := hat i x hx
      obtain ⟨⟨q0, q1, q2, q3⟩, -⟩ := hfz i h1
      rw [ea] at q0
      rw [eb] at q1 q2 q3
      exact ⟨q0, q1, q2, q3⟩

end Go.Proofs.YtelfinhpjokmdaaDoor

namespace Go.Proofs.YtelfinhpjokmdaaDoor
set_option maxRecDepth 100000
open Go.RowKit Go.Joins Go.ChangeShapes Go.WideShapes
open Go.MapKept
set_option linter.unusedVariables false
set_option linter.unusedSimpArgs false

structure Lr (w wx : World) (b a : Nat) (F : Bl) (T : TbL RS) (v : Value) (xs : List Int) (A : Int → Nat) : Prop where
  tb : TbA w wx b F T
  mp : CntM wx a A
  row : QI wx w.heap.size v xs
  na : ¬ F a
  nv : ∀ k, v.ownBlock = some k → ¬ F k
  lo : w.heap.size ≤ a
theorem CntM.kind {w : World} {b : Nat} {A : Int → Nat} (h : CntM w b A) : ∃ es c, w.heap[b]? = some (.map es c) := by
  obtain ⟨f, n, ⟨es, c, h1, -⟩, -⟩ := h
  exact ⟨es, c, h1⟩
section
variable {w wx wy : World} {b a : Nat} {F F' : Bl} {T T' : TbL RS} {v v' : Value} {xs xs' : List Int} {A : Int → Nat}
theorem Lr.ne (h : Lr w wx b a F T v xs A) {k : Nat} (hk : v.ownBlock = some k) : k ≠ a := by
  rintro rfl
  obtain ⟨cur, e1⟩ := QR.kind h.row hk
  obtain ⟨es, c, e2⟩ := h.mp.kind
  rw [e1] at e2
  injection e2 with e2
  cases e2
theorem Lr.below (h : Lr w wx b a F T v xs A) (hb : Below wx.heap.size wx wy) : Lr w wy b a F T v xs A :=
  ⟨h.tb.below hb, h.mp.below hb, h.row.step (F := fun _ => False) (Frm.of_below hb) (fun _ _ e => e), h.na, h.nv, h.lo⟩
theorem Lr.put (h : Lr w wx b a F T v xs A) (x : Int) (z : Nat) : ∃ w', (Instr.mapUpdate 26 (.map (some a)) (.int .i64 x) (.int .i64 (z : Int))).run Tryd.prog wx = .ok () w' ∧ Lr w w' b a F T v xs (setA A x z) := by
  obtain ⟨w', hr, hm, hf⟩ := h.mp.put x z
  exact ⟨w', hr, h.tb.step hf (fun k hk => by rw [hk]; exact h.na) (fun k hk => by rw [hk]; exact h.lo), hm, h.row.step hf (fun k hk e => h.ne hk e), h.na, h.nv, h.lo⟩
theorem Lr.went (h : Lr w wx b a F T v xs A) (hT : TbA w wy b F' T') (hf : Frm F wx wy) (hn : New wx F F') : Lr w wy b a F' T' v xs A :=
  ⟨hT, h.mp.step hf h.na, h.row.step hf h.nv, fun c => by
    rcases hn a c with e | e
    · exact h.na e
    · have := h.mp.lt; omega, fun k hk c => by
    rcases hn k c with e | e
    · exact h.nv k hk e
    · have := (h.row.lt k hk).2; omega, h.lo⟩
theorem Lr.push (h : Lr w wx b a F T v xs A) (hq : QI wy w.heap.size v' xs') (hg : wx.grownBy wy v.ownBlock) (hn : NewO wx v v') : Lr w wy b a F T v' xs' A := by
  have hf : Frm (fun k => v.ownBlock = some k) wx wy := Frm.grown (F := fun k => v.ownBlock = some k) (Frm.refl _ wx) hg (fun k hk => .inl hk)
  refine ⟨h.tb.step hf h.nv (fun k hk => (h.row.lt k hk).1), h.mp.step hf (fun c => h.ne c rfl), hq, h.na, fun k hk c => ?_, h.lo⟩
  rcases hn k hk with e | e
  · exact h.nv k e c
  · have := h.tb.hi c; omega
theorem siz_row (r : List Int) : sizT (rowT ([97] : RS) 6 r) ≤ r.length := by
  cases r with
  | nil => exact Nat.le_refl _
  | cons x r => simp [rowT, sizT]; omega
theorem row_ask10 {x : Int} {xs : List Int} (h : x ∉ xs) : askL ordT mds (rowT ([97] : RS) 6 xs) x [97] 6 = (rowT [97] 6 (xs ++ [x]), if xs = [] then 1 else 2) := row_ask ordT mds (by decide) (by decide) h
theorem row_drop10 {x : Int} {r : List Int} (h : (x :: r).Nodup) : dropL ordT mds (rowT ([97] : RS) 6 (x :: r)) x = (rowT [97] 6 r, r.take 1) := row_drop ordT mds (by decide) (by decide) h
/-- a number out of a row -/
theorem QI.one {wx : World} {B g o n cap : Nat} {l : List Int} (h : QI wx B (.slice (some ⟨g, o, none⟩) n cap) l) {i : Nat} {x : Int} (hx : l[i]? = some x) : QI wx B (.slice (some ⟨g, o + i, none⟩) 1 (cap - i)) [x] := by
  rcases h with ⟨e, -⟩ | ⟨g', o', cap', cur, e, h2, h3, h4, h5, h6, h7⟩
  · simp at e
  · simp only [Value.slice.injEq, Option.some.injEq, Addr.mk.injEq, and_true] at e
    obtain ⟨⟨rfl, rfl⟩, e2, rfl⟩ := e
    have hi : i < l.length := (List.getElem?_eq_some_iff.1 hx).1
    rw [icells_length] at h4
    refine .inr ⟨g, o + i, cap - i, cur, rfl, h2, h3, by rw [icells_length]; simp; omega, by omega, by omega, fun j u hu => ?_⟩
    match j with
    | 0 =>
      have hu' : u = .int .i64 x := by simpa [icells] using hu.symm
      rw [hu']
      exact h7 i _ (icells_at hx)
    | j + 1 => simp [icells] at hu
end

end Go.Proofs.YtelfinhpjokmdaaDoor

namespace Go.Proofs.YtelfinhpjokmdaaDoor
open Go.RowKit Go.Joins Go.ChangeShapes Go.WideShapes
set_option linter.unusedVariables false
set_option linter.unusedSimpArgs false

theorem seven {n : Nat} (h : n < 7) : n = 0 ∨ n = 1 ∨ n = 2 ∨ n = 3 ∨ n = 4 ∨ n = 5 ∨ n = 6 := by omega
theorem kn_no {a : Int} (h : kn a = false) : a < 0 ∨ 6 < a := by
  simp only [kn, Bool.and_eq_false_iff, decide_eq_false_iff_not] at h
  omega
theorem join_eq : ∀ a, a < 7 → ∀ b, b < 7 → (decide (jnI (a : Nat) (b : Nat) = (a : Nat)) = cvI (a : Nat) (b : Nat) ∧ kn (jnI (a : Nat) (b : Nat)) = true) := by decide +kernel
end Go.Proofs.YtelfinhpjokmdaaDoor

namespace Go.Proofs.YtelfinhpjokmdaaDoor
open Go.RowKit Go.Joins Go.ChangeShapes Go.WideShapes
set_option linter.unusedVariables false
set_option linter.unusedSimpArgs false

set_option maxHeartbeats 4000000 in
theorem rjoin_no (a b : Int) (w : World) (h : kn a = false ∨ kn b = false) : Calls Tryd.prog 36 #[.int .i64 a, .int .i64 b] w fun e w' => e = .returned (.int .i64 0) ∧ Below w.heap.size w w' := by
  by_cases c1 : a < 0
  · go_enter Tryd.func36, Tryd.ntmps36
    go_wp2
    go_ret
    exact ⟨rfl, (Below.refl _ _).alloc (Nat.le_refl _) _⟩
  · by_cases c2 : 6 < a
    · go_enter Tryd.func36, Tryd.ntmps36
      go_wp2
      go_ret
      exact ⟨rfl, (Below.refl _ _).alloc (Nat.le_refl _) _⟩
    · by_cases c3 : b < 0
      · go_enter Tryd.func36, Tryd.ntmps36
        go_wp2
        go_ret
        exact ⟨rfl, (Below.refl _ _).alloc (Nat.le_refl _) _⟩
      · have c4 : 6 < b := by
          rcases h with h | h
          · have := kn_no h; omega
          · have := kn_no h; omega
        go_enter Tryd.func36, Tryd.ntmps36
        go_wp2
        go_ret
        exact ⟨rfl, (Below.refl _ _).alloc (Nat.le_refl _) _⟩
set_option maxHeartbeats 40000000 in
theorem rjoin_yes (a b : Nat) (w : World) (ha : a < 7) (hb : b < 7) : Calls Tryd.prog 36 #[.int .i64 a, .int .i64 b] w fun e w' => e = .returned (.int .i64 (jnI a b)) ∧ Below w.heap.size w w' := by
  rcases seven ha with rfl | rfl | rfl | rfl | rfl | rfl | rfl <;> rcases seven hb with rfl | rfl | rfl | rfl | rfl | rfl | rfl
  all_goals
    go_enter Tryd.func36, Tryd.ntmps36
    go_wp2
    go_ret
    exact ⟨rfl, (Below.refl _ _).alloc (Nat.le_refl _) _⟩

theorem cv_le : ∀ m, m < 7 → ∀ b : Int, kn b = false → cvI m b = false := fun m _ b h => by unfold cvI; rw [h]; simp
theorem jn_no {a b : Int} (h : kn a = false ∨ kn b = false) : jnI a b = 0 := by
  have hc : ∀ m : Int, (cvI m a && cvI m b) = false := by
    intro m
    rcases h with h | h
    · simp [cvI, h]
    · simp [cvI, h]
  have hn : ∀ n m, jnN a b m n = 0 := by
    intro n
    induction n with
    | zero => intro m; rfl
    | succ n ih =>
      intro m
      unfold jnN
      rw [hc m]
      exact ih (m + 1)
  exact hn 7 0
theorem rjoin_any (a b : Int) (w : World) : Calls Tryd.prog 36 #[.int .i64 a, .int .i64 b] w fun e w' => e = .returned (.int .i64 (jnI a b)) ∧ Below w.heap.size w w' := by
  by_cases h : kn a = false ∨ kn b = false
  · rw [jn_no h]
    exact rjoin_no a b w h
  · obtain ⟨na, rfl, la⟩ := kn_cases (a := a) (by cases e : kn a with | true => rfl | false => exact absurd (.inl e) h)
    obtain ⟨nb, rfl, lb⟩ := kn_cases (a := b) (by cases e : kn b with | true => rfl | false => exact absurd (.inr e) h)
    exact rjoin_yes na nb w la lb
set_option maxHeartbeats 1000000 in
theorem rcov_any (a b : Int) (w : World) : Calls Tryd.prog 12 #[.int .i64 a, .int .i64 b] w fun e w' => e = .returned (.bool (cvI a b)) ∧ Below w.heap.size w w' := by
  have HJ := Lib.hid (rjoin_any a b w)
  obtain ⟨r, hr⟩ : ∃ r, cvI a b = r := ⟨_, rfl⟩
  rw [hr]
  by_cases h : kn a = false ∨ kn b = false
  · obtain rfl : r = false := by
      rw [← hr]
      unfold cvI
      rcases h with h | h
      · simp [h]
      · simp [h]
    clear hr
    by_cases c1 : a < 0
    · go_enter Tryd.func12, Tryd.ntmps12
      go_wp2
      go_ret
      exact ⟨rfl, Below.refl _ _⟩
    · by_cases c2 : 6 < a
      · go_enter Tryd.func12, Tryd.ntmps12
        go_wp2
        go_ret
        exact ⟨rfl, Below.refl _ _⟩
      · by_cases c3 : b < 0
        · go_enter Tryd.func12, Tryd.ntmps12
          go_wp2
          go_ret
          exact ⟨rfl, Below.refl _ _⟩
        · have c4 : 6 < b := by
            rcases h with h | h
            · have := kn_no h; omega
            · have := kn_no h; omega
          go_enter Tryd.func12, Tryd.ntmps12
          go_wp2
          go_ret
          exact ⟨rfl, Below.refl _ _⟩
  · obtain ⟨na, rfl, la⟩ := kn_cases (a := a) (by cases e : kn a with | true => rfl | false => exact absurd (.inl e) h)
    obtain ⟨nb, rfl, lb⟩ := kn_cases (a := b) (by cases e : kn b with | true => rfl | false => exact absurd (.inr e) h)
    have hj := (join_eq na la nb lb).1
    rw [hr] at hj
    have c1 : ¬ (na : Int) < 0 := by omega
    have c2 : ¬ (6 : Int) < na := by omega
    have c3 : ¬ (nb : Int) < 0 := by omega
    have c4 : ¬ (6 : Int) < nb := by omega
    generalize jnI na nb = z at *
    have t1 : (z == (na : Int)) = r := by rw [← hj]; rfl
    clear hr hj h
    go_enter Tryd.func12, Tryd.ntmps12
    go_wp2_with fail
    refine HJ.out.mono ?_
    rintro e w' ⟨rfl, b1⟩
    have HB := Lib.hid b1
    clear b1
    go_wp2
    go_ret
    exact ⟨rfl, HB.out⟩

end Go.Proofs.YtelfinhpjokmdaaDoor

namespace Go.Proofs.YtelfinhpjokmdaaDoor
set_option maxRecDepth 100000
open Go.RowKit Go.Joins Go.ChangeShapes Go.WideShapes
open Go.MapKept
set_option linter.unusedVariables false
set_option linter.unusedSimpArgs false

/-- locks of one thing go together, and are of two -/
def CleanR (l : List Lv) : Prop := ∀ (i k : Nat) (x y : Lv), k < i → l[i]? = some x → l[k]? = some y → x.res = y.res → x.txn ≠ y.txn ∧ tgI x.mode y.mode = true
theorem clean_of {T : TbL RS} (h : InvL ordT mds T) : CleanR T.hv := by
  intro i k x y hki hx hy hr
  obtain ⟨h1, h2⟩ := List.getElem?_eq_some_iff.1 hx
  obtain ⟨h3, h4⟩ := List.getElem?_eq_some_iff.1 hy
  have hp := List.pairwise_iff_getElem.1 h.srt k i h3 h1 hki
  rw [h2, h4] at hp
  have hne : x.txn ≠ y.txn := fun e => ahd_key ordT hp ⟨e.symm, hr.symm⟩
  exact ⟨hne, h.cl x (List.mem_of_getElem? hx) y (List.mem_of_getElem? hy) hr hne⟩
theorem clb {w w0 w1 : World} {Q : Prop} (h : Below w.heap.size w w0 ∧ Q) (hb : Below w0.heap.size w0 w1) : Below w.heap.size w w1 := h.1.trans (hb.mono h.1.size)
end Go.Proofs.YtelfinhpjokmdaaDoor

namespace Go.Proofs.YtelfinhpjokmdaaDoor
set_option maxRecDepth 100000
open Go.RowKit Go.Joins Go.ChangeShapes Go.WideShapes
open Go.MapKept
set_option linter.unusedVariables false
set_option linter.unusedSimpArgs false

/-- those of P are counted once -/
def WtM (w : World) (b : Nat) (P : Int → Bool) : Prop := ∃ f n, IMap (.int .i64) ik w b f n ∧ ∀ x, f x = if P x = true then some (.int .i64 1) else none
section
variable {w w1 : World} {b : Nat} {P Q : Int → Bool} {F : Bl}
theorem WtM.lt (h : WtM w b P) : b < w.heap.size := by obtain ⟨f, n, h1, -⟩ := h; exact h1.lt
theorem WtM.step (h : WtM w b P) (hf : Frm F w w1) (hb : ¬ F b) : WtM w1 b P := by
  obtain ⟨f, n, h1, h2⟩ := h
  exact ⟨f, n, h1.step hf hb, h2⟩
theorem WtM.below (h : WtM w b P) (hb : Below w.heap.size w w1) : WtM w1 b P := h.step (F := fun _ => False) (Frm.of_below hb) (fun h => h)
theorem WtM.congr (h : WtM w b P) (e : ∀ x, P x = Q x) : WtM w b Q := by
  obtain ⟨f, n, h1, h2⟩ := h
  exact ⟨f, n, h1, fun x => by rw [← e x]; exact h2 x⟩
theorem wtm_made (w : World) (b : Nat) (hb : w.heap.size = b) : WtM (w.alloc (.map #[] 0)) b (fun _ => false) := ⟨_, _, imap_made (.int .i64) ik w b hb, fun _ => rfl⟩
theorem WtM.look (h : WtM w b P) (x : Int) {z : Int} (hz : z = if P x = true then 1 else 0) : (Instr.lookup 26 (.map (some b)) (.int .i64 x) false).run Tryd.prog w = .ok (.int .i64 z) w := by
  subst hz
  obtain ⟨f, n, h1, h2⟩ := h
  have := h1.look (P := Tryd.prog) (t := 26) Tryd.underlying26 Tryd.underlying3 ik_key (z := .int .i64 0) rfl x false
  rw [h2 x] at this
  by_cases c : P x = true
  · rw [if_pos c] at this ⊢; simpa using this
  · rw [if_neg c] at this ⊢; simpa using this
/-- one more is counted -/
theorem WtM.one (h : WtM w b P) (x : Int) : ∃ w', (Instr.mapUpdate 26 (.map (some b)) (.int .i64 x) (.int .i64 1)).run Tryd.prog w = .ok () w' ∧ WtM w' b (fun z => decide (z = x) || P z) ∧ Frm (fun k => k = b) w w' := by
  obtain ⟨f, n, h1, h2⟩ := h
  obtain ⟨w', hr, m, g, -⟩ := h1.put (P := Tryd.prog) (t := 26) Tryd.underlying26 Tryd.underlying3 ik_key ik_inj x (.int .i64 1)
  refine ⟨w', hr, ⟨_, _, m, fun y => ?_⟩, Frm.grown (Frm.refl _ w) g (fun k hk => by injection hk with hk; exact .inl hk.symm)⟩
  show (if y = x then _ else f y) = _
  by_cases c : y = x
  · subst c; simp
  · rw [if_neg c, h2 y]; simp [c]
/-- one is out -/
theorem WtM.del (h : WtM w b P) (x : Int) : ∃ w', (∀ ty, (Builtin.delete_ #[26, 3] ty #[.map (some b), .int .i64 x]).run Tryd.prog w = .ok (.tuple #[]) w') ∧ WtM w' b (fun z => P z && !decide (z = x)) ∧ Frm (fun k => k = b) w w' := by
  obtain ⟨f, n, h1, h2⟩ := h
  obtain ⟨w', hr, m, g, -⟩ := h1.del (P := Tryd.prog) (t := 26) (ty := 0) Tryd.underlying26 Tryd.underlying3 ik_key ik_inj x
  refine ⟨w', fun ty => hr, ⟨_, _, m, fun y => ?_⟩, Frm.grown (Frm.refl _ w) g (fun k hk => by injection hk with hk; exact .inl hk.symm)⟩
  show (if y = x then none else f y) = _
  by_cases c : y = x
  · subst c; simp
  · rw [if_neg c, h2 y]; simp [c]
/-- one is counted down to nothing, and out -/
theorem WtM.off (h : WtM w b P) (x : Int) : ∃ w1 w2, (Instr.mapUpdate 26 (.map (some b)) (.int .i64 x) (.int .i64 0)).run Tryd.prog w = .ok () w1 ∧ (Instr.lookup 26 (.map (some b)) (.int .i64 x) false).run Tryd.prog w1 = .ok (.int .i64 0) w1 ∧
    (∀ ty, (Builtin.delete_ #[26, 3] ty #[.map (some b), .int .i64 x]).run Tryd.prog w1 = .ok (.tuple #[]) w2) ∧ WtM w2 b (fun z => P z && !decide (z = x)) ∧ Frm (fun k => k = b) w w2 ∧ Frm (fun k => k = b) w w1 := by
  obtain ⟨f, n, h1, h2⟩ := h
  obtain ⟨w', hr, m, g, -⟩ := h1.put (P := Tryd.prog) (t := 26) Tryd.underlying26 Tryd.underlying3 ik_key ik_inj x (.int .i64 0)
  have hl := m.look (P := Tryd.prog) (t := 26) Tryd.underlying26 Tryd.underlying3 ik_key (z := .int .i64 0) rfl x false
  obtain ⟨w2, hr2, m2, g2, -⟩ := m.del (P := Tryd.prog) (t := 26) (ty := 0) Tryd.underlying26 Tryd.underlying3 ik_key ik_inj x
  have f1 : Frm (fun k => k = b) w w' := Frm.grown (Frm.refl _ w) g (fun k hk => by injection hk with hk; exact .inl hk.symm)
  refine ⟨w', w2, hr, by simpa using hl, fun ty => hr2, ⟨_, _, m2, fun y => ?_⟩, Frm.grown f1 g2 (fun k hk => by injection hk with hk; exact .inl hk.symm), f1⟩
  show (if y = x then none else if y = x then _ else f y) = _
  by_cases c : y = x
  · subst c; simp
  · rw [if_neg c, if_neg c, h2 y]; simp [c]
theorem WtM.len (h : WtM w b P) (hn : ∀ x, P x = false) (ty : TypeId) : (Builtin.len_ #[26] ty #[.map (some b)]).run Tryd.prog w = .ok (.int .i64 0) w := by
  obtain ⟨f, n, h1, h2⟩ := h
  have hl := h1.len (P := Tryd.prog) (t := 26) (ty := ty) Tryd.underlying26
  obtain ⟨es, clock, q1, q2, q3, q4, q5⟩ := h1
  have : n = 0 := by
    rw [← q5]
    cases hx : es.toList with
    | nil => have := congrArg List.length hx; simpa using this
    | cons e r =>
      have he : e ∈ es.toList := by rw [hx]; exact List.mem_cons_self ..
      obtain ⟨k, hk⟩ := q3 e he
      have := (q4 k e.val).2 ⟨e, he, hk, rfl⟩
      rw [h2 k, hn k] at this
      simp at this
  rw [this] at hl
  exact hl
end
/-- LocksEnds' state: the table, and the map -/
structure Le (w wx : World) (b a : Nat) (F : Bl) (T : TbL RS) (P : Int → Bool) : Prop where
  tb : TbA w wx b F T
  mp : WtM wx a P
  na : ¬ F a
  lo : w.heap.size ≤ a
section
variable {w wx wy : World} {b a : Nat} {F F' : Bl} {T T' : TbL RS} {P P' : Int → Bool}
theorem Le.below (h : Le w wx b a F T P) (hb : Below wx.heap.size wx wy) : Le w wy b a F T P := ⟨h.tb.below hb, h.mp.below hb, h.na, h.lo⟩
theorem Le.congr (h : Le w wx b a F T P) (e : ∀ x, P x = P' x) : Le w wx b a F T P' := ⟨h.tb, h.mp.congr e, h.na, h.lo⟩
theorem Le.turn (h : Le w wx b a F T P) (hf : Frm (fun k => k = a) wx wy) (hm : WtM wy a P') : Le w wy b a F T P' :=
  ⟨h.tb.step hf (fun k hk => by rw [hk]; exact h.na) (fun k hk => by rw [hk]; exact h.lo), hm, h.na, h.lo⟩
theorem Le.went (h : Le w wx b a F T P) (hT : TbA w wy b F' T') (hf : Frm F wx wy) (hn : New wx F F') : Le w wy b a F' T' P :=
  ⟨hT, h.mp.step hf h.na, fun c => by
    rcases hn a c with e | e
    · exact h.na e
    · have := h.mp.lt; omega, h.lo⟩
theorem Le.one (h : Le w wx b a F T P) (x : Int) : ∃ w', (Instr.mapUpdate 26 (.map (some a)) (.int .i64 x) (.int .i64 1)).run Tryd.prog wx = .ok () w' ∧ Le w w' b a F T (fun z => decide (z = x) || P z) := by
  obtain ⟨w', hr, hm, hf⟩ := h.mp.one x
  exact ⟨w', hr, h.turn hf hm⟩
theorem Le.del (h : Le w wx b a F T P) (x : Int) : ∃ w', (∀ ty, (Builtin.delete_ #[26, 3] ty #[.map (some a), .int .i64 x]).run Tryd.prog wx = .ok (.tuple #[]) w') ∧ Le w w' b a F T (fun z => P z && !decide (z = x)) := by
  obtain ⟨w', hr, hm, hf⟩ := h.mp.del x
  exact ⟨w', hr, h.turn hf hm⟩
theorem Le.off (h : Le w wx b a F T P) {v : Value} {B : Nat} {g : List Int} (hq : QI wx B v g) (hv : ∀ k, v.ownBlock = some k → k ≠ a) (x : Int) : ∃ w1 w2, (Instr.mapUpdate 26 (.map (some a)) (.int .i64 x) (.int .i64 0)).run Tryd.prog wx = .ok () w1 ∧ (Instr.lookup 26 (.map (some a)) (.int .i64 x) false).run Tryd.prog w1 = .ok (.int .i64 0) w1 ∧
    (∀ ty, (Builtin.delete_ #[26, 3] ty #[.map (some a), .int .i64 x]).run Tryd.prog w1 = .ok (.tuple #[]) w2) ∧ Le w w2 b a F T (fun z => P z && !decide (z = x)) ∧ QI w2 B v g := by
  obtain ⟨w1, w2, hr, hl, hd, hm, hf, hf1⟩ := h.mp.off x
  exact ⟨w1, w2, hr, hl, hd, h.turn hf hm, hq.step hf (fun k hk e => hv k hk e)⟩
theorem Le.ne (h : Le w wx b a F T P) {v : Value} {B : Nat} {g : List Int} (hq : QI wx B v g) {k : Nat} (hk : v.ownBlock = some k) : k ≠ a := by
  rintro rfl
  obtain ⟨cur, e1⟩ := QR.kind hq hk
  obtain ⟨f, n, ⟨es, c, e2, -⟩, -⟩ := h.mp
  rw [e1] at e2
  injection e2 with e2
  cases e2
end
/-- who waits -/
def wtP (T : TbL RS) (x : Int) : Bool := (wsh T.wt x).isSome
theorem wtP_iff {T : TbL RS} {x : Int} : wtP T x = true ↔ ∃ w ∈ T.wt, w.l.txn = x := by
  constructor
  · intro h
    obtain ⟨l, hl⟩ := Option.isSome_iff_exists.1 h
    obtain ⟨w, hw, e, e2⟩ := wsh_some hl
    exact ⟨w, hw, by rw [e]; exact e2⟩
  · rintro ⟨w, hw, e⟩
    cases c : wtP T x with
    | true => rfl
    | false => exact absurd e (wsh_none (by unfold wtP at c; rw [c]; simp) w hw)
theorem wtP_ask2 {T : TbL RS} (h : InvL ordT mds T) {t : Int} {s : RS} {m : Int} (h2 : (askL ordT mds T t s m).2 = 2) : wtP T t = false ∧ ∀ x, (decide (x = t) || wtP T x) = wtP (askL ordT mds T t s m).1 x := by
  rcases (ask_cases ordT mds h t s m).1 with ⟨e, -⟩ | ⟨-, -, hn, w, hw, e⟩
  · exact absurd h2 e
  · refine ⟨?_, fun x => ?_⟩
    · cases c : wtP T t with
      | false => rfl
      | true => obtain ⟨u, hu, e⟩ := wtP_iff.1 c; exact absurd e (hn u hu)
    · rw [Bool.eq_iff_iff, Bool.or_eq_true, decide_eq_true_eq, wtP_iff, wtP_iff, e]
      constructor
      · rintro (rfl | ⟨u, hu, g⟩)
        · exact ⟨w, by simp, hw⟩
        · exact ⟨u, by simp [hu], g⟩
      · rintro ⟨u, hu, g⟩
        rcases List.mem_append.1 hu with q | q
        · exact .inr ⟨u, q, g⟩
        · simp at q; rw [q] at g; exact .inl (g.symm.trans hw)
theorem wtP_ask1 {T : TbL RS} (h : InvL ordT mds T) {t : Int} {s : RS} {m : Int} (h2 : (askL ordT mds T t s m).2 ≠ 2) (x : Int) : wtP T x = wtP (askL ordT mds T t s m).1 x := by
  rcases (ask_cases ordT mds h t s m).1 with ⟨-, e⟩ | ⟨e, -⟩
  · unfold wtP; rw [e]
  · exact absurd e h2
/-- while the granted are counted out -/
def wtD (T : TbL RS) (t : Int) (g : List Int) (x : Int) : Bool := (wtP T x && !decide (x = t)) && !g.contains x
theorem wtD_nil (T : TbL RS) (t x : Int) : (wtP T x && !decide (x = t)) = wtD T t [] x := by unfold wtD; simp
theorem wtD_next {T : TbL RS} (h : InvL ordT mds T) {t : Int} {j : Nat} {x : Int} (hx : (dropL ordT mds T t).2[j]? = some x) : wtD T t ((dropL ordT mds T t).2.take j) x = true ∧
    ∀ y, (wtD T t ((dropL ordT mds T t).2.take j) y && !decide (y = x)) = wtD T t ((dropL ordT mds T t).2.take (j + 1)) y := by
  obtain ⟨hnd, h2, -, -⟩ := drop_gr ordT mds h t
  constructor
  · obtain ⟨hn, w, hw, e⟩ := h2 x (List.mem_of_getElem? hx)
    have hni : x ∉ (dropL ordT mds T t).2.take j := by
      intro c
      obtain ⟨i, hi⟩ := List.getElem?_of_mem c
      rw [List.getElem?_take] at hi
      split at hi
      · have := (List.getElem?_inj (List.getElem?_eq_some_iff.1 hi).1 hnd).1 (hi.trans hx.symm)
        omega
      · cases hi
    have hc : ((dropL ordT mds T t).2.take j).contains x = false := by
      cases c : ((dropL ordT mds T t).2.take j).contains x with
      | false => rfl
      | true => exact absurd (List.contains_iff_mem.1 c) hni
    unfold wtD
    rw [hc, wtP_iff.2 ⟨w, hw, e⟩]
    simp [hn]
  · intro y
    unfold wtD
    rw [List.take_add_one, hx]
    simp [Bool.and_assoc, List.contains_eq_mem]
theorem wtD_end {T : TbL RS} (h : InvL ordT mds T) (t x : Int) : wtD T t (dropL ordT mds T t).2 x = wtP (dropL ordT mds T t).1 x := by
  obtain ⟨-, -, h3, -⟩ := drop_gr ordT mds h t
  rw [Bool.eq_iff_iff, wtP_iff]
  unfold wtD
  rw [Bool.and_eq_true, Bool.and_eq_true, wtP_iff]
  constructor
  · rintro ⟨⟨⟨w, hw, e⟩, h1⟩, h2⟩
    refine ⟨w, (h3 w).2 ⟨hw, ?_, ?_⟩, e⟩
    · rw [e]; simpa using h1
    · rw [e]; intro c
      rw [List.contains_iff_mem.2 c] at h2
      cases h2
  · rintro ⟨w, hw, e⟩
    obtain ⟨g1, g2, g3⟩ := (h3 w).1 hw
    rw [e] at g2 g3
    refine ⟨⟨⟨w, g1, e⟩, by simpa using g2⟩, ?_⟩
    cases c : (dropL ordT mds T t).2.contains x with
    | false => rfl
    | true => exact absurd (List.contains_iff_mem.1 c) g3
theorem wtP_none {T : TbL RS} (h : T.wt = []) (x : Int) : wtP T x = false := by unfold wtP wsh; rw [h]; rfl

end Go.Proofs.YtelfinhpjokmdaaDoor

namespace Go.Proofs.YtelfinhpjokmdaaDoor
set_option maxRecDepth 100000
open Go.RowKit Go.Joins Go.ChangeShapes Go.WideShapes
open Go.MapKept
set_option linter.unusedVariables false
set_option linter.unnecessarySimpa false
set_option linter.unusedSimpArgs false

/-- two locks are one -/
def leq (a : Int) (s : ByteArray) (b c : Int) (t : ByteArray) (d : Int) : Bool := a == c && (s.toList == t.toList && b == d)
theorem leq_iff (x y : Lv) : leq x.txn ⟨x.res.toArray⟩ x.mode y.txn ⟨y.res.toArray⟩ y.mode = true ↔ x = y := by
  unfold leq
  simp only [Bool.and_eq_true, beq_iff_eq]
  constructor
  · rintro ⟨h1, h2, h3⟩
    have h5 : x.res = y.res := by simpa using h2
    cases x; cases y
    simp at h1 h3 h5
    rw [h1, h3, h5]
  · rintro rfl; exact ⟨rfl, rfl, rfl⟩
@[go_sem] theorem eqL (a : Int) (s : ByteArray) (b c : Int) (t : ByteArray) (d : Int) (w : World) : (Op.equalIn 10000 35 (.agg #[.int .i64 a, .string s, .int .i64 b]) (.agg #[.int .i64 c, .string t, .int .i64 d])).run Tryd.prog w = .ok (leq a s b c t d) w := by
  have u3 := Tryd.underlying3
  have u9 := Tryd.underlying9
  have hS : Tryd.prog.underlying 35 = some (.struct (Tryd.prog.fieldsOf 35)) := by kernel_rfl
  have hp : Tryd.prog.stoodInHeld 35 = false := by kernel_rfl
  rw [show (10000 : Nat) = 9999 + 1 from rfl, run_equalIn_agg w 9999 35 _ _ hS hp]
  simp only [Program.fieldsOf, Tryd.underlying35]
  go_simp
  unfold leq
  by_cases h1 : a = c <;> by_cases h2 : s.toList = t.toList <;> by_cases h3 : b = d <;> simp [h1, h2, h3]
/-- two edges are one -/
def geq (a b c d : Int) : Bool := a == c && b == d
theorem geq_iff (x y : Gv) : geq x.1 x.2 y.1 y.2 = true ↔ x = y := by
  unfold geq
  rw [Bool.and_eq_true, beq_iff_eq, beq_iff_eq]
  exact ⟨fun ⟨h1, h2⟩ => Prod.ext h1 h2, fun h => by rw [h]; exact ⟨rfl, rfl⟩⟩
@[go_sem] theorem eqG (a b c d : Int) (w : World) : (Op.equalIn 10000 78 (.agg #[.int .i64 a, .int .i64 b]) (.agg #[.int .i64 c, .int .i64 d])).run Tryd.prog w = .ok (geq a b c d) w := by
  have u3 := Tryd.underlying3
  have hS : Tryd.prog.underlying 78 = some (.struct (Tryd.prog.fieldsOf 78)) := by kernel_rfl
  have hp : Tryd.prog.stoodInHeld 78 = false := by kernel_rfl
  rw [show (10000 : Nat) = 9999 + 1 from rfl, run_equalIn_agg w 9999 78 _ _ hS hp]
  simp only [Program.fieldsOf, Tryd.underlying78]
  go_simp
  unfold geq
  by_cases h1 : a = c <;> by_cases h2 : b = d <;> simp [h1, h2]

set_option maxHeartbeats 4000000 in
theorem samelocks_any (w : World) (B1 B2 : Nat) (v1 v2 : Value) (l1 l2 : List Lv) (h1 : OwL w B1 v1 l1) (h2 : OwL w B2 v2 l2) :
    Calls Tryd.prog 15 #[v1, v2] w fun e w' => e = .returned (.bool (decide (l1 = l2))) ∧ Below w.heap.size w w' := by
  obtain ⟨a1, c1, e1, hc1, hm1⟩ := h1.sl
  obtain ⟨a2, c2, e2, hc2, hm2⟩ := h2.sl
  obtain ⟨n, hn⟩ : ∃ n, l1.length = n := ⟨_, rfl⟩
  obtain ⟨m, hm⟩ : ∃ m, l2.length = m := ⟨_, rfl⟩
  rw [hn] at e1 hc1
  rw [hm] at e2 hc2
  subst e1 e2
  have hn9 : n ≤ maxLen := Nat.le_trans hc1 hm1
  unfold maxLen at hn9
  have HH1 := Lib.hid h1
  have HH2 := Lib.hid h2
  have HN := Lib.hid hn
  have HM := Lib.hid hm
  by_cases c : n = m
  · subst c
    generalize hP : (fun (e : Ending) (w' : World) => e = .returned (.bool (decide (l1 = l2))) ∧ Below w.heap.size w w') = P
    have HP := Lib.hid hP
    clear hP h1 h2 hn hm hc1 hc2 hm1 hm2
    go_enter Tryd.func15, Tryd.ntmps15
    go_wp2_with fail
    go_loopw [5] (fun i wx => ∃ j : Nat, j ≤ n ∧ i = .int .i64 j ∧ Hid (Below w.heap.size w wx) ∧ Hid (l1.take j = l2.take j)) (fun i _ => n - (intOf i).toNat)
    case atStart => exact ⟨0, Nat.zero_le _, rfl, Lib.hid (Below.refl _ _), Lib.hid rfl⟩
    case round =>
      obtain ⟨j, hj, rfl, HB, HE⟩ := hrel
      by_cases cj : j < n
      · have cj1 : (j : Int) < (n : Int) := by omega
        obtain ⟨x, hx⟩ : ∃ x, l1[j]? = some x := ⟨_, List.getElem?_eq_getElem (by rw [HN.out]; exact cj)⟩
        obtain ⟨y, hy⟩ : ∃ y, l2[j]? = some y := ⟨_, List.getElem?_eq_getElem (by rw [HM.out]; exact cj)⟩
        have q1 : OwL wr B1 (.slice a1 n c1) l1 := (Frm.of_below (F := fun _ => False) HB.out).owL HH1.out (fun _ _ e => e)
        have q2 : OwL wr B2 (.slice a2 n c2) l2 := (Frm.of_below (F := fun _ => False) HB.out).owL HH2.out (fun _ _ e => e)
        obtain ⟨g1, cap1, e1, -, -, x0, x1, x2, -⟩ := OwL.at q1 hx
        obtain ⟨g2, cap2, e2, -, -, y0, y1, y2, -⟩ := OwL.at q2 hy
        injection e1 with e1 e1' e1''
        injection e2 with e2 e2' e2''
        subst e1 e2
        have HX := Lib.hid (And.intro hx hy)
        have hjw : IntKind.i64.wrap ((j : Int) + 1) = ((j + 1 : Nat) : Int) := by rw [IntWalk.i64_in _ (by omega)]; omega
        have HB2 := Lib.hid (fun (q : Nat) => show Below w.heap.size w (wr.drewN q) from HB.out.trans ⟨rfl, rfl, rfl, Nat.le_refl _, fun _ _ => rfl⟩)
        clear q1 q2 e1' e1'' e2' e2'' hx hy
        by_cases cxy : x = y
        · have HE2 := Lib.hid (show l1.take (j + 1) = l2.take (j + 1) by rw [List.take_add_one, List.take_add_one, HX.out.1, HX.out.2, HE.out, cxy])
          subst cxy
          go_upto_region 6 with fail
          go_quiet (fail)
          go_wp2_with fail
          go_roundw
          case rel => exact ⟨j + 1, by omega, by first | rfl | go_num, Lib.hid (HB2.out _), HE2⟩
          case measure => simp [intOf]; omega
        · have HF := Lib.hid (fun (q : Nat) => show P (.returned (.bool false)) (wr.drewN q) by
            rw [← HP.out]
            have : decide (l1 = l2) = false := by
              rw [decide_eq_false_iff_not]
              rintro rfl
              have h1 := HX.out.1
              rw [HX.out.2] at h1
              injection h1 with h1
              exact cxy h1.symm
            rw [this]
            exact ⟨rfl, HB2.out q⟩)
          clear HX
          by_cases q1 : x.txn = y.txn
          · by_cases q2 : x.res = y.res
            · have q3 : ¬ x.mode = y.mode := fun q3 => cxy (by cases x; cases y; simp at q1 q2 q3; rw [q1, q2, q3])
              clear cxy
              go_upto_region 6 with fail
              go_quiet (fail)
              go_wp2_with fail
              exact HF.out _
            · clear cxy
              go_upto_region 6 with fail
              go_quiet (fail)
              go_wp2_with fail
              exact HF.out _
          · clear cxy
            go_upto_region 6 with fail
            go_quiet (fail)
            go_wp2_with fail
            exact HF.out _
      · obtain rfl : j = n := by omega
        have cf : decide ((j : Int) < (j : Int)) = false := by simp
        have HF := Lib.hid (show P (.returned (.bool true)) wr by
          rw [← HP.out, decide_eq_true (take_eq_all HE.out HN.out HM.out)]
          exact ⟨rfl, HB.out⟩)
        go_wp2_with fail
        exact HF.out
  · have hd : decide (l1 = l2) = false := by
      rw [decide_eq_false_iff_not]
      rintro rfl
      exact c (hn.symm.trans hm)
    rw [hd]
    have hmn : ¬ (n : Int) = (m : Int) := by omega
    clear h1 h2 hn hm hc1 hc2 hm1 hm2 hd
    go_enter Tryd.func15, Tryd.ntmps15
    go_wp2_with fail
    go_ret
    exact ⟨rfl, Below.refl _ _⟩

set_option maxHeartbeats 4000000 in
theorem sameedges_any (w : World) (B1 B2 : Nat) (v1 v2 : Value) (l1 l2 : List Gv) (h1 : OwG w B1 v1 l1) (h2 : OwG w B2 v2 l2) :
    Calls Tryd.prog 16 #[v1, v2] w fun e w' => e = .returned (.bool (decide (l1 = l2))) ∧ Below w.heap.size w w' := by
  obtain ⟨a1, c1, e1, hc1, hm1⟩ := h1.sl
  obtain ⟨a2, c2, e2, hc2, hm2⟩ := h2.sl
  obtain ⟨n, hn⟩ : ∃ n, l1.length = n := ⟨_, rfl⟩
  obtain ⟨m, hm⟩ : ∃ m, l2.length = m := ⟨_, rfl⟩
  rw [hn] at e1 hc1
  rw [hm] at e2 hc2
  subst e1 e2
  have hn9 : n ≤ maxLen := Nat.le_trans hc1 hm1
  unfold maxLen at hn9
  have HH1 := Lib.hid h1
  have HH2 := Lib.hid h2
  have HN := Lib.hid hn
  have HM := Lib.hid hm
  by_cases c : n = m
  · subst c
    generalize hP : (fun (e : Ending) (w' : World) => e = .returned (.bool (decide (l1 = l2))) ∧ Below w.heap.size w w') = P
    have HP := Lib.hid hP
    clear hP h1 h2 hn hm hc1 hc2 hm1 hm2
    go_enter Tryd.func16, Tryd.ntmps16
    go_wp2_with fail
    go_loopw [5] (fun i wx => ∃ j : Nat, j ≤ n ∧ i = .int .i64 j ∧ Hid (Below w.heap.size w wx) ∧ Hid (l1.take j = l2.take j)) (fun i _ => n - (intOf i).toNat)
    case atStart => exact ⟨0, Nat.zero_le _, rfl, Lib.hid (Below.refl _ _), Lib.hid rfl⟩
    case round =>
      obtain ⟨j, hj, rfl, HB, HE⟩ := hrel
      by_cases cj : j < n
      · have cj1 : (j : Int) < (n : Int) := by omega
        obtain ⟨x, hx⟩ : ∃ x, l1[j]? = some x := ⟨_, List.getElem?_eq_getElem (by rw [HN.out]; exact cj)⟩
        obtain ⟨y, hy⟩ : ∃ y, l2[j]? = some y := ⟨_, List.getElem?_eq_getElem (by rw [HM.out]; exact cj)⟩
        have q1 : OwG wr B1 (.slice a1 n c1) l1 := (Frm.of_below (F := fun _ => False) HB.out).owG HH1.out (fun _ _ e => e)
        have q2 : OwG wr B2 (.slice a2 n c2) l2 := (Frm.of_below (F := fun _ => False) HB.out).owG HH2.out (fun _ _ e => e)
        obtain ⟨g1, cap1, e1, -, -, x0, x1, -⟩ := OwG.at q1 hx
        obtain ⟨g2, cap2, e2, -, -, y0, y1, -⟩ := OwG.at q2 hy
        injection e1 with e1 e1' e1''
        injection e2 with e2 e2' e2''
        subst e1 e2
        have HX := Lib.hid (And.intro hx hy)
        have hjw : IntKind.i64.wrap ((j : Int) + 1) = ((j + 1 : Nat) : Int) := by rw [IntWalk.i64_in _ (by omega)]; omega
        have HB2 := Lib.hid (fun (q : Nat) => show Below w.heap.size w (wr.drewN q) from HB.out.trans ⟨rfl, rfl, rfl, Nat.le_refl _, fun _ _ => rfl⟩)
        clear q1 q2 e1' e1'' e2' e2'' hx hy
        by_cases cxy : x = y
        · have HE2 := Lib.hid (show l1.take (j + 1) = l2.take (j + 1) by rw [List.take_add_one, List.take_add_one, HX.out.1, HX.out.2, HE.out, cxy])
          subst cxy
          go_upto_region 6 with fail
          go_quiet (fail)
          go_wp2_with fail
          go_roundw
          case rel => exact ⟨j + 1, by omega, by first | rfl | go_num, Lib.hid (HB2.out _), HE2⟩
          case measure => simp [intOf]; omega
        · have HF := Lib.hid (fun (q : Nat) => show P (.returned (.bool false)) (wr.drewN q) by
            rw [← HP.out]
            have : decide (l1 = l2) = false := by
              rw [decide_eq_false_iff_not]
              rintro rfl
              have h1 := HX.out.1
              rw [HX.out.2] at h1
              injection h1 with h1
              exact cxy h1.symm
            rw [this]
            exact ⟨rfl, HB2.out q⟩)
          clear HX
          by_cases q1 : x.1 = y.1
          · have q2 : ¬ x.2 = y.2 := fun q2 => cxy (Prod.ext q1 q2)
            clear cxy
            go_upto_region 6 with fail
            go_quiet (fail)
            go_wp2_with fail
            exact HF.out _
          · clear cxy
            go_upto_region 6 with fail
            go_quiet (fail)
            go_wp2_with fail
            exact HF.out _
      · obtain rfl : j = n := by omega
        have cf : decide ((j : Int) < (j : Int)) = false := by simp
        have HF := Lib.hid (show P (.returned (.bool true)) wr by
          rw [← HP.out, decide_eq_true (take_eq_all HE.out HN.out HM.out)]
          exact ⟨rfl, HB.out⟩)
        go_wp2_with fail
        exact HF.out
  · have hd : decide (l1 = l2) = false := by
      rw [decide_eq_false_iff_not]
      rintro rfl
      exact c (hn.symm.trans hm)
    rw [hd]
    have hmn : ¬ (n : Int) = (m : Int) := by omega
    clear h1 h2 hn hm hc1 hc2 hm1 hm2 hd
    go_enter Tryd.func16, Tryd.ntmps16
    go_wp2_with fail
    go_ret
    exact ⟨rfl, Below.refl _ _⟩

end Go.Proofs.YtelfinhpjokmdaaDoor

namespace Go.Proofs.YtelfinhpjokmdaaDoor
set_option maxRecDepth 100000
open Go.RowKit Go.Joins Go.ChangeShapes Go.WideShapes
open Go.MapKept
set_option linter.unusedVariables false
set_option linter.unusedSimpArgs false

/-- the table, and a list of locks of the law's own -/
structure Ls (w wx : World) (b : Nat) (F : Bl) (T : TbL RS) (v : Value) (G : List Lv) : Prop where
  tb : TbA w wx b F T
  row : OwL wx w.heap.size v G
  nv : ∀ k, v.ownBlock = some k → ¬ F k
section
variable {w wx wy : World} {b : Nat} {F F' : Bl} {T T' : TbL RS} {v v' u u' : Value} {G G' L L' : List Lv}
theorem OwL.below' (h : OwL wx w.heap.size v G) (hb : Below wx.heap.size wx wy) : OwL wy w.heap.size v G := (Frm.of_below (F := fun _ => False) hb).owL h (fun _ _ e => e)
theorem Ls.below (h : Ls w wx b F T v G) (hb : Below wx.heap.size wx wy) : Ls w wy b F T v G := ⟨h.tb.below hb, h.row.below' hb, h.nv⟩
theorem Ls.went (h : Ls w wx b F T v G) (hT : TbA w wy b F' T') (hf : Frm F wx wy) (hn : New wx F F') : Ls w wy b F' T' v G :=
  ⟨hT, hf.owL h.row h.nv, fun k hk c => by
    rcases hn k c with e | e
    · exact h.nv k hk e
    · have := (h.row.lt k hk).2; omega⟩
theorem Ls.push (h : Ls w wx b F T v G) (ho : OwL wy w.heap.size v' G') (hg : wx.grownBy wy v.ownBlock) (hn : NewB wx v v') : Ls w wy b F T v' G' := by
  have hf : Frm (fun k => v.ownBlock = some k) wx wy := Frm.grown (F := fun k => v.ownBlock = some k) (Frm.refl _ wx) hg (fun k hk => .inl hk)
  refine ⟨h.tb.step hf h.nv (fun k hk => (h.row.lt k hk).1), ho, fun k hk c => ?_⟩
  rcases hn k hk with e | e
  · exact h.nv k e c
  · have := h.tb.hi c; omega
/-- while those of others are sorted out: a second list, all behind W -/
structure EnL (W wx : World) (u : Value) (L : List Lv) : Prop where
  own : OwL wx W.heap.size u L
  bel : Below W.heap.size W wx
theorem EnL.below (h : EnL w wx u L) (hb : Below wx.heap.size wx wy) : EnL w wy u L := ⟨h.own.below' hb, h.bel.trans (hb.mono h.bel.size)⟩
theorem EnL.push (h : EnL w wx u L) (ho : OwL wy w.heap.size u' L') (hg : wx.grownBy wy u.ownBlock) : EnL w wy u' L' :=
  ⟨ho, h.bel.grown hg h.bel.size (fun k hk => (h.own.lt k hk).1)⟩
theorem Ls.last {W : World} (h : Ls w W b F T v G) (k : EnL W wx u L) : Ls w wx b F T u L :=
  ⟨h.tb.below k.bel, k.own.le h.tb.bel.size, fun q hq c => by
    have := (k.own.lt q hq).1
    have := h.tb.hi c
    omega⟩
end
/-- an empty list that was just made -/
theorem owl_made (w : World) (B : Nat) (hB : B ≤ w.heap.size) : OwL (w.alloc (.cells #[] 35)) B (.slice (some ⟨w.heap.size, 0, none⟩) 0 0) [] :=
  OwL.mk (cur := []) hB (heap_alloc_new w _) (Nat.le_refl _) (by decide) rfl rfl
/-- held as strong as asked -/
def HeldL (T : TbL RS) (l : Lv) : Prop := mrg l.mode = true ∧ mdO T.hv l.txn l.res ≠ 0 ∧ cvI (mdO T.hv l.txn l.res) l.mode = true
theorem HeldL.keep {T T' : TbL RS} {l : Lv} (h : HeldL T l) (r0 : InvL ordT mds T) (r1 : InvL ordT mds T') (hk : KpL mds T T' l.txn l.res) : HeldL T' l := by
  obtain ⟨h0, h1, h2⟩ := h
  obtain ⟨k1, k2⟩ := hk h1
  exact ⟨h0, k1, mds.cvt _ _ _ (r1.rt _ (mdO_mem k1)) (r0.rt _ (mdO_mem h1)) h0 k2 h2⟩
def AllH (T : TbL RS) (G : List Lv) : Prop := ∀ l ∈ G, HeldL T l
theorem AllH.ask {T : TbL RS} {G : List Lv} (h : AllH T G) (hi : InvL ordT mds T) (t : Int) (s : RS) (m : Int) : AllH (askL ordT mds T t s m).1 G := fun l hl =>
  (h l hl).keep hi (InvL.ask ordT mds hi t s m) (ask_keeps ordT mds hi t s m _ _)
theorem AllH.got {T : TbL RS} {G : List Lv} (h : AllH T G) (hi : InvL ordT mds T) {t : Int} {s : RS} {m : Int} (hg : (askL ordT mds T t s m).2 = 1) : AllH (askL ordT mds T t s m).1 (G ++ [⟨t, s, m⟩]) := fun l hl => by
  rcases List.mem_append.1 hl with e | e
  · exact h.ask hi t s m l e
  · simp at e
    rw [e]
    exact ask_got ordT mds hi hg
def outG (G : List Lv) (t : Int) : List Lv := G.filter fun l => !decide (l.txn = t)
theorem outG_length (G : List Lv) (t : Int) : (outG G t).length ≤ G.length := List.length_filter_le _ _
theorem AllH.drop {T : TbL RS} {G : List Lv} (h : AllH T G) (hi : InvL ordT mds T) (t : Int) : AllH (dropL ordT mds T t).1 (outG G t) := fun l hl => by
  obtain ⟨h1, h2⟩ := List.mem_filter.1 hl
  exact (h l h1).keep hi (InvL.drop ordT mds hi t) (drop_keeps ordT mds hi t (by simpa using h2) _)
theorem outG_yes {G : List Lv} {t : Int} {j : Nat} {x : Lv} (hx : G[j]? = some x) (hn : x.txn ≠ t) : outG (G.take (j + 1)) t = outG (G.take j) t ++ [x] := by
  unfold outG
  rw [List.take_add_one, hx, List.filter_append]
  simp [hn]
theorem outG_no {G : List Lv} {t : Int} {j : Nat} {x : Lv} (hx : G[j]? = some x) (hn : x.txn = t) : outG (G.take (j + 1)) t = outG (G.take j) t := by
  unfold outG
  rw [List.take_add_one, hx, List.filter_append]
  simp [hn]
theorem clq {w w0 : World} {Q : Prop} (h : Below w.heap.size w w0 ∧ Q) : Below w.heap.size w w0 := h.1
theorem cls {w w0 w1 : World} {Q : Prop} (h : Below w.heap.size w w0 ∧ Q) (hb : Below w0.heap.size w0 w1) : Below w.heap.size w w1 := h.1.trans (hb.mono h.1.size)

end Go.Proofs.YtelfinhpjokmdaaDoor

namespace Go.Proofs.YtelfinhpjokmdaaDoor
set_option maxRecDepth 100000
open Go.RowKit Go.Joins Go.ChangeShapes Go.WideShapes
open Go.MapKept
set_option linter.unusedVariables false
set_option linter.unusedSimpArgs false

structure Ag (w wx : World) (b : Nat) (F : Bl) (T : TbL RS) (v : Value) (L : List Lv) (u : Value) (E : List Gv) : Prop where
  tb : TbA w wx b F T
  rl : OwL wx w.heap.size v L
  rg : OwG wx w.heap.size u E
  nv : ∀ k, v.ownBlock = some k → ¬ F k
  nu : ∀ k, u.ownBlock = some k → ¬ F k
section
variable {w wx wy : World} {b : Nat} {F F' : Bl} {T T' : TbL RS} {v u : Value} {L : List Lv} {E : List Gv}
theorem Ag.below (h : Ag w wx b F T v L u E) (hb : Below wx.heap.size wx wy) : Ag w wy b F T v L u E :=
  ⟨h.tb.below hb, (Frm.of_below (F := fun _ => False) hb).owL h.rl (fun _ _ e => e), (Frm.of_below (F := fun _ => False) hb).owG h.rg (fun _ _ e => e), h.nv, h.nu⟩
theorem Ag.went (h : Ag w wx b F T v L u E) (hT : TbA w wy b F' T') (hf : Frm F wx wy) (hn : New wx F F') : Ag w wy b F' T' v L u E :=
  ⟨hT, hf.owL h.rl h.nv, hf.owG h.rg h.nu, fun k hk c => by
    rcases hn k c with e | e
    · exact h.nv k hk e
    · have := (h.rl.lt k hk).2; omega, fun k hk c => by
    rcases hn k c with e | e
    · exact h.nu k hk e
    · have := (h.rg.lt k hk).2; omega⟩
end
theorem again_same {T : TbL RS} (hi : InvL ordT mds T) {y : Lv} (hy : y ∈ T.hv) (hw : wsh T.wt y.txn = none) : askL ordT mds T y.txn y.res y.mode = (T, 1) := by
  have hm := mdO_of ordT hi.srt hy
  have hr := hi.rt y hy
  exact ask_again ordT mds hi hw (by rw [hm]; exact mds.pos _ hr) hr (by rw [hm]; exact mds.rfl _ hr)
theorem again_less {T : TbL RS} (hi : InvL ordT mds T) {y : Lv} (hy : y ∈ T.hv) (hw : wsh T.wt y.txn = none) {m : Int} (hc : cvI y.mode m = true) (hm : 0 < m) : askL ordT mds T y.txn y.res m = (T, 1) := by
  have he := mdO_of ordT hi.srt hy
  have hr := hi.rt y hy
  have hk : kn m = true := by unfold cvI at hc; simp only [Bool.and_eq_true] at hc; exact hc.1.2
  have hg : mrg m = true := by
    unfold kn at hk
    unfold mrg
    simp only [Bool.and_eq_true, decide_eq_true_eq] at hk ⊢
    omega
  exact ask_again ordT mds hi hw (by rw [he]; exact mds.pos _ hr) hg (by rw [he]; exact hc)

end Go.Proofs.YtelfinhpjokmdaaDoor

namespace Go.Proofs.YtelfinhpjokmdaaDoor
set_option maxRecDepth 100000
theorem lo8 : True := trivial
end Go.Proofs.YtelfinhpjokmdaaDoor
