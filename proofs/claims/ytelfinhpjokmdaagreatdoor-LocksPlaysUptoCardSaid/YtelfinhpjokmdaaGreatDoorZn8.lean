/-
  Texts of mine put together, in build order.
  Conditions: as each declaration says.
-/
import Derived.Deep.Slices
import Derived.Deep.Fields
import Derived.Deep.Strs
import Derived.Lib.SmallJoins
import Derived.Maps.AppendAt
import Derived.Deep.RegionHeld3
import Derived.BigQuiet
import Derived.Test.YtelfinhpjokmdaaGreatDoorZn7
namespace Go.Proofs.YtelfinhpjokmdaaGreatDoor
set_option maxRecDepth 100000
open Go.RowKit Go.Joins Go.ChangeShapes Go.WideShapes
set_option linter.unusedVariables false
set_option linter.unusedSimpArgs false

theorem up_one {H : Type} (d : DataW H) : 1 ≤ Rows.uptoBulk d := by
  cases d with
  | lit l => cases l <;> simp [Rows.uptoBulk]
  | _ => simp [Rows.uptoBulk]
theorem up_mem {H : Type} {d : DataW H} : ∀ {l : List (DataW H)}, d ∈ l → Rows.uptoBulk d ≤ Rows.uptoBulkAll l
  | [], h => by cases h
  | x :: r, h => by
    unfold Rows.uptoBulkAll
    rcases List.mem_cons.1 h with rfl | h
    · omega
    · have := up_mem h; omega
theorem up_len {H : Type} : ∀ (l : List (DataW H)), l.length ≤ Rows.uptoBulkAll l
  | [] => by simp
  | x :: r => by
    unfold Rows.uptoBulkAll
    have := up_one x
    have := up_len r
    rw [List.length_cons]
    omega
theorem up_many {H : Type} (k : Nat) : ∀ (l : List (DataW H)), (∀ d ∈ l, k ≤ Rows.uptoBulk d) → l.length * k ≤ Rows.uptoBulkAll l
  | [], _ => by simp
  | x :: r, h => by
    unfold Rows.uptoBulkAll
    have h1 := h x (List.mem_cons_self ..)
    have h2 := up_many k r fun d hd => h d (List.mem_cons_of_mem _ hd)
    rw [List.length_cons, Nat.add_mul, Nat.one_mul]
    omega
theorem up_all {H : Type} {l : List (DataW H)} (hk : Rows.uptoSmall H l = true) : Rows.uptoBulkAll l ≤ 1048576 := of_decide_eq_true hk
theorem up_arg {H : Type} {l : List (DataW H)} (hk : Rows.uptoSmall H l = true) {d : DataW H} (h : d ∈ l) : Rows.uptoBulk d ≤ 1048576 := Nat.le_trans (up_mem h) (up_all hk)
theorem cells_io : Tryz.prog.cellsOf 3 = 1 := by kernel_rfl
theorem cells_so : Tryz.prog.cellsOf 9 = 1 := by kernel_rfl
/-- whole numbers that came in -/
structure IntA (W : World) (a : Option Addr) (l : List Int) : Prop where
  b : ∃ b off, (l = [] ∨ a = some ⟨b, off, none⟩) ∧ (0 < l.length → b < W.heap.size) ∧ ∀ i x, l[i]? = some x → W.cell? ⟨b, off + i, none⟩ = some (.int .i64 x)
theorem IntA.at {W : World} {a : Option Addr} {l : List Int} (h : IntA W a l) {i : Nat} {x : Int} (hx : l[i]? = some x) : ∃ b off, a = some ⟨b, off, none⟩ ∧ W.cell? ⟨b, off + i, none⟩ = some (.int .i64 x) := by
  obtain ⟨b, off, h1, h2, h3⟩ := h.b
  rcases h1 with rfl | h1
  · simp at hx
  · exact ⟨b, off, h1, h3 i x hx⟩
theorem IntA.below {W W1 : World} {a : Option Addr} {l : List Int} (h : IntA W a l) (hb : Below W.heap.size W W1) : IntA W1 a l := by
  obtain ⟨b, off, h1, h2, h3⟩ := h.b
  refine ⟨b, off, h1, fun h => Nat.lt_of_lt_of_le (h2 h) hb.size, fun i x hx => (hb.cell (p := ⟨b, off + i, none⟩) (h2 ?_)).trans (h3 i x hx)⟩
  cases l with
  | nil => simp at hx
  | cons y l => simp
theorem open_intsR {H : Type} {enc : TypeId × Value → H} {W : World} {base b0 : Nat} {r : Reach} {v : Value} {d : DataW H} {p : List MemPlace}
    (o : Value.okWide Tryz.prog W r b0 35 v) (h : DataW.Trod enc Tryz.prog W base (fun _ => true) true 35 v d p) (hb : Rows.uptoBulk d ≤ 1048576) :
    ∃ (a : Option Addr) (cap : Nat) (l : List Int), v = .slice a l.length cap ∧ l.length ≤ 1048576 ∧ IntA W a l ∧ ∀ x ∈ l, (Lit.int .i64 x).wf = true := by
  obtain ⟨a, len, cap, rfl⟩ := okWide_slice Tryz.underlying35 o
  obtain ⟨fuel, hf⟩ := h
  rcases Go.Deep.open_slice1 Tryz.underlying35 cells_io hf with ⟨hcs, hx⟩ | ⟨a', len', cap', m, n, V, D, Pl, hcs, hbb, hl, hm, hmm, hx, hi⟩
  · simp [Value.cells] at hcs
    obtain ⟨rfl, rfl, rfl⟩ := hcs
    exact ⟨none, 0, [], rfl, by decide, ⟨0, 0, .inl rfl, fun h => absurd h (by decide), fun i x hx => by simp at hx⟩, fun x hx => by cases hx⟩
  · simp [Value.cells] at hcs
    obtain ⟨rfl, rfl, rfl⟩ := hcs
    simp only [if_true] at hmm
    subst hmm
    simp only [Prod.mk.injEq] at hx
    obtain ⟨rfl, -⟩ := hx
    have hbs : Rows.uptoBulkAll ((List.range len).map D) + Rows.uptoBulkAll ((List.range (m - len)).map fun j => D (len + j)) + 1 ≤ 1048576 := by
      unfold Rows.uptoBulk at hb
      exact hb
    have l1 := up_len ((List.range len).map D)
    rw [List.length_map, List.length_range] at l1
    have hk : ∀ i, ∃ z : Int, i < len → V i = .int .i64 z ∧ (Lit.int .i64 z).wf = true := by
      intro i
      by_cases hil : i < len
      · obtain ⟨k, e0, -, e2⟩ := DataW.trod_int Tryz.underlying3 (hi i (by omega)).2
        injection e0 with e0
        exact ⟨k, fun _ => ⟨e0, e2⟩⟩
      · exact ⟨0, fun h => absurd h hil⟩
    obtain ⟨f, hfz⟩ := Classical.axiomOfChoice hk
    obtain ⟨l, hl0⟩ : ∃ l, (List.range len).map f = l := ⟨_, rfl⟩
    have hll : l.length = len := by rw [← hl0]; simp
    have hat : ∀ i x, l[i]? = some x → i < len ∧ f i = x := fun i x hx => by
      have hil : i < len := by rw [← hll]; exact (List.getElem?_eq_some_iff.1 hx).1
      rw [← hl0, List.getElem?_map, List.getElem?_range hil] at hx
      exact ⟨hil, by simpa using hx⟩
    have hwf : ∀ x ∈ l, (Lit.int .i64 x).wf = true := fun x hx => by
      obtain ⟨i, hi'⟩ := List.getElem?_of_mem hx
      obtain ⟨h1, h2⟩ := hat i x hi'
      rw [← h2]; exact (hfz i h1).2
    by_cases h0 : len = 0
    · have : l = [] := List.eq_nil_of_length_eq_zero (by rw [hll, h0])
      refine ⟨_, _, l, by rw [hll], by omega, ⟨0, 0, .inl this, fun h => absurd h (by rw [this]; decide), fun i x hx => by rw [this] at hx; simp at hx⟩, hwf⟩
    · have hsp : a'.spot = none := by
        have c := (hi 0 (by omega)).1
        simpa [Addr.add] using World.cell?_spot c
      obtain ⟨b, off, spot⟩ := a'
      simp only at hsp
      subst hsp
      have ea : ∀ j, (⟨b, off, none⟩ : Addr).add j = ⟨b, off + j, none⟩ := by intro j; unfold Addr.add; split <;> simp_all
      have hlt : b < W.heap.size := by
        have c := (hi 0 (by omega)).1
        rw [ea] at c
        exact World.block_lt_of_cell? W _ c
      refine ⟨_, _, l, by rw [hll], by omega, ⟨b, off, .inr rfl, fun _ => hlt, fun i x hx => ?_⟩, hwf⟩
      obtain ⟨h1, rfl⟩ := hat i x hx
      rw [← ea, ← (hfz i h1).1]
      exact (hi i (by omega)).1
/-- a step of a script -/
structure Op10 where
  kind : Int
  txn : Int
  mode : Int
  res : RS
/-- a script that came in -/
structure OpsA (W : World) (a : Option Addr) (l : List Op10) : Prop where
  b : ∃ b off, (l = [] ∨ a = some ⟨b, off, none⟩) ∧ (0 < l.length → b < W.heap.size) ∧ ∀ i x, l[i]? = some x → W.cell? ⟨b, off + i * 4, none⟩ = some (.int .i64 x.kind) ∧ W.cell? ⟨b, off + i * 4 + 1, none⟩ = some (.int .i64 x.txn) ∧ W.cell? ⟨b, off + i * 4 + 2, none⟩ = some (.int .i64 x.mode) ∧ W.cell? ⟨b, off + i * 4 + 3, none⟩ = some (.string ⟨x.res.toArray⟩)
theorem OpsA.at {W : World} {a : Option Addr} {l : List Op10} (h : OpsA W a l) {i : Nat} {x : Op10} (hx : l[i]? = some x) : ∃ b off, a = some ⟨b, off, none⟩ ∧ W.cell? ⟨b, off + i * 4, none⟩ = some (.int .i64 x.kind) ∧ W.cell? ⟨b, off + i * 4 + 1, none⟩ = some (.int .i64 x.txn) ∧ W.cell? ⟨b, off + i * 4 + 2, none⟩ = some (.int .i64 x.mode) ∧ W.cell? ⟨b, off + i * 4 + 3, none⟩ = some (.string ⟨x.res.toArray⟩) := by
  obtain ⟨b, off, h1, h2, h3⟩ := h.b
  rcases h1 with rfl | h1
  · simp at hx
  · exact ⟨b, off, h1, h3 i x hx⟩
theorem OpsA.below {W W1 : World} {a : Option Addr} {l : List Op10} (h : OpsA W a l) (hb : Below W.heap.size W W1) : OpsA W1 a l := by
  obtain ⟨b, off, h1, h2, h3⟩ := h.b
  refine ⟨b, off, h1, fun h => Nat.lt_of_lt_of_le (h2 h) hb.size, fun i x hx => ?_⟩
  have hl : b < W.heap.size := h2 (by
    cases l with
    | nil => simp at hx
    | cons y l => simp)
  obtain ⟨g0, g1, g2, g3⟩ := h3 i x hx
  exact ⟨(hb.cell (p := ⟨b, _, none⟩) hl).trans g0, (hb.cell (p := ⟨b, _, none⟩) hl).trans g1, (hb.cell (p := ⟨b, _, none⟩) hl).trans g2, (hb.cell (p := ⟨b, _, none⟩) hl).trans g3⟩
theorem cells_op10 : Tryz.prog.cellsOf 32 = 4 := by kernel_rfl
theorem open_ops10 {H : Type} {enc : TypeId × Value → H} {W : World} {base b0 : Nat} {r : Reach} {v : Value} {d : DataW H} {p : List MemPlace}
    (o : Value.okWide Tryz.prog W r b0 22 v) (h : DataW.Trod enc Tryz.prog W base (fun _ => true) true 22 v d p) (hb : Rows.uptoBulk d ≤ 1048576) :
    ∃ (a : Option Addr) (cap : Nat) (l : List Op10), v = .slice a l.length cap ∧ l.length * 5 ≤ 1048576 ∧ OpsA W a l ∧ ∀ x ∈ l, okB x.txn x.res := by
  obtain ⟨a, len, cap, rfl⟩ := okWide_slice Tryz.underlying22 o
  obtain ⟨fuel, hf⟩ := h
  rcases Go.Deep.open_slice Tryz.underlying22 hf with ⟨hcs, hx⟩ | ⟨a', len', cap', m, n, D, Pl, hcs, hbb, hl, hm, hmm, hx, hi⟩
  · simp [Value.cells] at hcs
    obtain ⟨rfl, rfl, rfl⟩ := hcs
    exact ⟨none, 0, [], rfl, by decide, ⟨0, 0, .inl rfl, fun h => absurd h (by decide), fun i x hx => by simp at hx⟩, fun x hx => by cases hx⟩
  · simp [Value.cells] at hcs
    obtain ⟨rfl, rfl, rfl⟩ := hcs
    simp only [if_true] at hmm
    subst hmm
    simp only [Prod.mk.injEq] at hx
    obtain ⟨rfl, -⟩ := hx
    rw [cells_op10] at hi
    have hbs : Rows.uptoBulkAll ((List.range len).map D) + Rows.uptoBulkAll ((List.range (m - len)).map fun j => D (len + j)) + 1 ≤ 1048576 := by
      unfold Rows.uptoBulk at hb
      exact hb
    have hk : ∀ i, ∃ x : Op10, i < len → (W.cell? (a'.add (i * 4)) = some (.int .i64 x.kind) ∧ W.cell? ((a'.add (i * 4)).add 1) = some (.int .i64 x.txn) ∧ W.cell? ((a'.add (i * 4)).add 2) = some (.int .i64 x.mode) ∧ W.cell? ((a'.add (i * 4)).add 3) = some (.string ⟨x.res.toArray⟩)) ∧ okB x.txn x.res ∧ 5 ≤ Rows.uptoBulk (D i) := by
      intro i
      by_cases hil : i < len
      · obtain ⟨cs', hc, ht⟩ := hi i (by omega)
        obtain ⟨y0, y1, y2, y3, n', hy, hlen, g0, g1, g2, g3⟩ := trod_struct4 Tryz.underlying32 ht
        rw [cells_op10] at hlen
        obtain ⟨_, hcl, hat⟩ := World.cells?_some hc
        match cs', hlen with
        | [q0, q1, q2, q3], _ =>
          obtain ⟨k0, e0, f0, -⟩ := DataW.trod_int Tryz.underlying3 g0
          obtain ⟨k1, e1, f1, w1⟩ := DataW.trod_int Tryz.underlying3 g1
          obtain ⟨k2, e2, f2, -⟩ := DataW.trod_int Tryz.underlying3 g2
          obtain ⟨s, e3, f3, w3⟩ := DataW.trod_string Tryz.underlying9 g3
          simp only [cells_io, cells_so] at e0 e1 e2 e3
          simp at e0 e1 e2 e3
          subst e0 e1 e2 e3
          have h1 := congrArg Prod.fst hy
          simp only at h1
          refine ⟨⟨k0, k1, k2, s.data.toList⟩, fun _ => ⟨⟨?_, hat 1 (by decide), hat 2 (by decide), by have := hat 3 (by decide); simpa using this⟩, ⟨w1, by simpa using w3⟩, ?_⟩⟩
          · have := hat 0 (by decide)
            simpa [Addr.add] using this
          · rw [h1, f0, f1, f2, f3]
            simp only [Rows.uptoBulk, Rows.uptoBulkAll]
            omega
      · exact ⟨⟨0, 0, 0, []⟩, fun h => absurd h hil⟩
    obtain ⟨f, hfz⟩ := Classical.axiomOfChoice hk
    have l1 := up_many 5 ((List.range len).map D) fun d hd => by
      obtain ⟨i, hi', rfl⟩ := List.mem_map.1 hd
      exact (hfz i (List.mem_range.1 hi')).2.2
    rw [List.length_map, List.length_range] at l1
    obtain ⟨l, hl0⟩ : ∃ l, (List.range len).map f = l := ⟨_, rfl⟩
    have hll : l.length = len := by rw [← hl0]; simp
    have hat : ∀ i x, l[i]? = some x → i < len ∧ f i = x := fun i x hx => by
      have hil : i < len := by rw [← hll]; exact (List.getElem?_eq_some_iff.1 hx).1
      rw [← hl0, List.getElem?_map, List.getElem?_range hil] at hx
      exact ⟨hil, by simpa using hx⟩
    have hwf : ∀ x ∈ l, okB x.txn x.res := fun x hx => by
      obtain ⟨i, hi'⟩ := List.getElem?_of_mem hx
      obtain ⟨h1, h2⟩ := hat i x hi'
      rw [← h2]; exact (hfz i h1).2.1
    by_cases h0 : len = 0
    · have : l = [] := List.eq_nil_of_length_eq_zero (by rw [hll, h0])
      exact ⟨_, _, l, by rw [hll], by omega, ⟨0, 0, .inl this, fun h => absurd h (by rw [this]; decide), fun i x hx => by rw [this] at hx; simp at hx⟩, hwf⟩
    · have hsp : a'.spot = none := by
        have c := (hfz 0 (by omega)).1.1
        simpa [Addr.add] using World.cell?_spot c
      obtain ⟨b, off, spot⟩ := a'
      simp only at hsp
      subst hsp
      have ea : ∀ j, (⟨b, off, none⟩ : Addr).add j = ⟨b, off + j, none⟩ := by intro j; unfold Addr.add; split <;> simp_all
      have eb : ∀ j k, ((⟨b, off, none⟩ : Addr).add j).add k = ⟨b, off + j + k, none⟩ := by intro j k; rw [Go.Deep.add_add, ea, Nat.add_assoc]
      have hlt : b < W.heap.size := by
        have c := (hfz 0 (by omega)).1.1
        rw [ea] at c
        exact World.block_lt_of_cell? W _ c
      refine ⟨_, _, l, by rw [hll], by omega, ⟨b, off, .inr rfl, fun _ => hlt, fun i x hx => ?_⟩, hwf⟩
      obtain ⟨h1, rfl⟩ := hat i x hx
      obtain ⟨⟨q0, q1, q2, q3⟩, -⟩ := hfz i h1
      rw [ea] at q0
      rw [eb] at q1 q2 q3
      exact ⟨q0, q1, q2, q3⟩

end Go.Proofs.YtelfinhpjokmdaaGreatDoor

namespace Go.Proofs.YtelfinhpjokmdaaGreatDoor
set_option maxRecDepth 100000
open Go.RowKit Go.Joins Go.ChangeShapes Go.WideShapes
open Go.MapKept
set_option linter.unusedVariables false
set_option linter.unusedSimpArgs false

structure Lr (w wx : World) (b a : Nat) (F : Bl) (T : TbL RS) (v : Value) (xs : List Int) (A : Int → Nat) : Prop where
  tb : TbA w wx b F T
  mp : CntM wx a A
  row : QI wx w.heap.size v xs
  na : ¬ F a
  nv : ∀ k, v.ownBlock = some k → ¬ F k
  lo : w.heap.size ≤ a
theorem CntM.kind {w : World} {b : Nat} {A : Int → Nat} (h : CntM w b A) : ∃ es c, w.heap[b]? = some (.map es c) := by
  obtain ⟨f, n, ⟨es, c, h1, -⟩, -⟩ := h
  exact ⟨es, c, h1⟩
section
variable {w wx wy : World} {b a : Nat} {F F' : Bl} {T T' : TbL RS} {v v' : Value} {xs xs' : List Int} {A : Int → Nat}
theorem Lr.ne (h : Lr w wx b a F T v xs A) {k : Nat} (hk : v.ownBlock = some k) : k ≠ a := by
  rintro rfl
  obtain ⟨cur, e1⟩ := QR.kind h.row hk
  obtain ⟨es, c, e2⟩ := h.mp.kind
  rw [e1] at e2
  injection e2 with e2
  cases e2
theorem Lr.below (h : Lr w wx b a F T v xs A) (hb : Below wx.heap.size wx wy) : Lr w wy b a F T v xs A :=
  ⟨h.tb.below hb, h.mp.below hb, h.row.step (F := fun _ => False) (Frm.of_below hb) (fun _ _ e => e), h.na, h.nv, h.lo⟩
theorem Lr.put (h : Lr w wx b a F T v xs A) (x : Int) (z : Nat) : ∃ w', (Instr.mapUpdate 56 (.map (some a)) (.int .i64 x) (.int .i64 (z : Int))).run Tryz.prog wx = .ok () w' ∧ Lr w w' b a F T v xs (setA A x z) := by
  obtain ⟨w', hr, hm, hf⟩ := h.mp.put x z
  exact ⟨w', hr, h.tb.step hf (fun k hk => by rw [hk]; exact h.na) (fun k hk => by rw [hk]; exact h.lo), hm, h.row.step hf (fun k hk e => h.ne hk e), h.na, h.nv, h.lo⟩
theorem Lr.went (h : Lr w wx b a F T v xs A) (hT : TbA w wy b F' T') (hf : Frm F wx wy) (hn : New wx F F') : Lr w wy b a F' T' v xs A :=
  ⟨hT, h.mp.step hf h.na, h.row.step hf h.nv, fun c => by
    rcases hn a c with e | e
    · exact h.na e
    · have := h.mp.lt; omega, fun k hk c => by
    rcases hn k c with e | e
    · exact h.nv k hk e
    · have := (h.row.lt k hk).2; omega, h.lo⟩
theorem Lr.push (h : Lr w wx b a F T v xs A) (hq : QI wy w.heap.size v' xs') (hg : wx.grownBy wy v.ownBlock) (hn : NewO wx v v') : Lr w wy b a F T v' xs' A := by
  have hf : Frm (fun k => v.ownBlock = some k) wx wy := Frm.grown (F := fun k => v.ownBlock = some k) (Frm.refl _ wx) hg (fun k hk => .inl hk)
  refine ⟨h.tb.step hf h.nv (fun k hk => (h.row.lt k hk).1), h.mp.step hf (fun c => h.ne c rfl), hq, h.na, fun k hk c => ?_, h.lo⟩
  rcases hn k hk with e | e
  · exact h.nv k e c
  · have := h.tb.hi c; omega
theorem siz_row (r : List Int) : sizT (rowT ([97] : RS) 6 r) ≤ r.length := by
  cases r with
  | nil => exact Nat.le_refl _
  | cons x r => simp [rowT, sizT]; omega
theorem row_ask10 {x : Int} {xs : List Int} (h : x ∉ xs) : askL ordT mds (rowT ([97] : RS) 6 xs) x [97] 6 = (rowT [97] 6 (xs ++ [x]), if xs = [] then 1 else 2) := row_ask ordT mds (by decide) (by decide) h
theorem row_drop10 {x : Int} {r : List Int} (h : (x :: r).Nodup) : dropL ordT mds (rowT ([97] : RS) 6 (x :: r)) x = (rowT [97] 6 r, r.take 1) := row_drop ordT mds (by decide) (by decide) h
/-- a number out of a row -/
theorem QI.one {wx : World} {B g o n cap : Nat} {l : List Int} (h : QI wx B (.slice (some ⟨g, o, none⟩) n cap) l) {i : Nat} {x : Int} (hx : l[i]? = some x) : QI wx B (.slice (some ⟨g, o + i, none⟩) 1 (cap - i)) [x] := by
  rcases h with ⟨e, -⟩ | ⟨g', o', cap', cur, e, h2, h3, h4, h5, h6, h7⟩
  · simp at e
  · simp only [Value.slice.injEq, Option.some.injEq, Addr.mk.injEq, and_true] at e
    obtain ⟨⟨rfl, rfl⟩, e2, rfl⟩ := e
    have hi : i < l.length := (List.getElem?_eq_some_iff.1 hx).1
    rw [icells_length] at h4
    refine .inr ⟨g, o + i, cap - i, cur, rfl, h2, h3, by rw [icells_length]; simp; omega, by omega, by omega, fun j u hu => ?_⟩
    match j with
    | 0 =>
      have hu' : u = .int .i64 x := by simpa [icells] using hu.symm
      rw [hu']
      exact h7 i _ (icells_at hx)
    | j + 1 => simp [icells] at hu
end

end Go.Proofs.YtelfinhpjokmdaaGreatDoor

namespace Go.Proofs.YtelfinhpjokmdaaGreatDoor
set_option maxRecDepth 100000
open Go.RowKit Go.Joins Go.ChangeShapes Go.WideShapes
open Go.MapKept
set_option linter.unusedVariables false
set_option linter.unnecessarySimpa false
set_option linter.unusedSimpArgs false

/-- two locks are one -/
def leq (a : Int) (s : ByteArray) (b c : Int) (t : ByteArray) (d : Int) : Bool := a == c && (s.toList == t.toList && b == d)
theorem leq_iff (x y : Lv) : leq x.txn ⟨x.res.toArray⟩ x.mode y.txn ⟨y.res.toArray⟩ y.mode = true ↔ x = y := by
  unfold leq
  simp only [Bool.and_eq_true, beq_iff_eq]
  constructor
  · rintro ⟨h1, h2, h3⟩
    have h5 : x.res = y.res := by simpa using h2
    cases x; cases y
    simp at h1 h3 h5
    rw [h1, h3, h5]
  · rintro rfl; exact ⟨rfl, rfl, rfl⟩
@[go_sem] theorem eqL (a : Int) (s : ByteArray) (b c : Int) (t : ByteArray) (d : Int) (w : World) : (Op.equalIn 10000 42 (.agg #[.int .i64 a, .string s, .int .i64 b]) (.agg #[.int .i64 c, .string t, .int .i64 d])).run Tryz.prog w = .ok (leq a s b c t d) w := by
  have u3 := Tryz.underlying3
  have u9 := Tryz.underlying9
  have hS : Tryz.prog.underlying 42 = some (.struct (Tryz.prog.fieldsOf 42)) := by kernel_rfl
  have hp : Tryz.prog.stoodInHeld 42 = false := by kernel_rfl
  rw [show (10000 : Nat) = 9999 + 1 from rfl, run_equalIn_agg w 9999 42 _ _ hS hp]
  simp only [Program.fieldsOf, Tryz.underlying42]
  go_simp
  unfold leq
  by_cases h1 : a = c <;> by_cases h2 : s.toList = t.toList <;> by_cases h3 : b = d <;> simp [h1, h2, h3]
/-- two edges are one -/
def geq (a b c d : Int) : Bool := a == c && b == d
theorem geq_iff (x y : Gv) : geq x.1 x.2 y.1 y.2 = true ↔ x = y := by
  unfold geq
  rw [Bool.and_eq_true, beq_iff_eq, beq_iff_eq]
  exact ⟨fun ⟨h1, h2⟩ => Prod.ext h1 h2, fun h => by rw [h]; exact ⟨rfl, rfl⟩⟩
@[go_sem] theorem eqG (a b c d : Int) (w : World) : (Op.equalIn 10000 75 (.agg #[.int .i64 a, .int .i64 b]) (.agg #[.int .i64 c, .int .i64 d])).run Tryz.prog w = .ok (geq a b c d) w := by
  have u3 := Tryz.underlying3
  have hS : Tryz.prog.underlying 75 = some (.struct (Tryz.prog.fieldsOf 75)) := by kernel_rfl
  have hp : Tryz.prog.stoodInHeld 75 = false := by kernel_rfl
  rw [show (10000 : Nat) = 9999 + 1 from rfl, run_equalIn_agg w 9999 75 _ _ hS hp]
  simp only [Program.fieldsOf, Tryz.underlying75]
  go_simp
  unfold geq
  by_cases h1 : a = c <;> by_cases h2 : b = d <;> simp [h1, h2]

set_option maxHeartbeats 4000000 in
theorem samelocks_any (w : World) (B1 B2 : Nat) (v1 v2 : Value) (l1 l2 : List Lv) (h1 : OwL w B1 v1 l1) (h2 : OwL w B2 v2 l2) :
    Calls Tryz.prog 36 #[v1, v2] w fun e w' => e = .returned (.bool (decide (l1 = l2))) ∧ Below w.heap.size w w' := by
  obtain ⟨a1, c1, e1, hc1, hm1⟩ := h1.sl
  obtain ⟨a2, c2, e2, hc2, hm2⟩ := h2.sl
  obtain ⟨n, hn⟩ : ∃ n, l1.length = n := ⟨_, rfl⟩
  obtain ⟨m, hm⟩ : ∃ m, l2.length = m := ⟨_, rfl⟩
  rw [hn] at e1 hc1
  rw [hm] at e2 hc2
  subst e1 e2
  have hn9 : n ≤ maxLen := Nat.le_trans hc1 hm1
  unfold maxLen at hn9
  have HH1 := Lib.hid h1
  have HH2 := Lib.hid h2
  have HN := Lib.hid hn
  have HM := Lib.hid hm
  by_cases c : n = m
  · subst c
    generalize hP : (fun (e : Ending) (w' : World) => e = .returned (.bool (decide (l1 = l2))) ∧ Below w.heap.size w w') = P
    have HP := Lib.hid hP
    clear hP h1 h2 hn hm hc1 hc2 hm1 hm2
    go_enter Tryz.func36, Tryz.ntmps36
    go_wp2_with fail
    go_loopw [5] (fun i wx => ∃ j : Nat, j ≤ n ∧ i = .int .i64 j ∧ Hid (Below w.heap.size w wx) ∧ Hid (l1.take j = l2.take j)) (fun i _ => n - (intOf i).toNat)
    case atStart => exact ⟨0, Nat.zero_le _, rfl, Lib.hid (Below.refl _ _), Lib.hid rfl⟩
    case round =>
      obtain ⟨j, hj, rfl, HB, HE⟩ := hrel
      by_cases cj : j < n
      · have cj1 : (j : Int) < (n : Int) := by omega
        obtain ⟨x, hx⟩ : ∃ x, l1[j]? = some x := ⟨_, List.getElem?_eq_getElem (by rw [HN.out]; exact cj)⟩
        obtain ⟨y, hy⟩ : ∃ y, l2[j]? = some y := ⟨_, List.getElem?_eq_getElem (by rw [HM.out]; exact cj)⟩
        have q1 : OwL wr B1 (.slice a1 n c1) l1 := (Frm.of_below (F := fun _ => False) HB.out).owL HH1.out (fun _ _ e => e)
        have q2 : OwL wr B2 (.slice a2 n c2) l2 := (Frm.of_below (F := fun _ => False) HB.out).owL HH2.out (fun _ _ e => e)
        obtain ⟨g1, cap1, e1, -, -, x0, x1, x2, -⟩ := OwL.at q1 hx
        obtain ⟨g2, cap2, e2, -, -, y0, y1, y2, -⟩ := OwL.at q2 hy
        injection e1 with e1 e1' e1''
        injection e2 with e2 e2' e2''
        subst e1 e2
        have HX := Lib.hid (And.intro hx hy)
        have hjw : IntKind.i64.wrap ((j : Int) + 1) = ((j + 1 : Nat) : Int) := by rw [IntWalk.i64_in _ (by omega)]; omega
        have HB2 := Lib.hid (fun (q : Nat) => show Below w.heap.size w (wr.drewN q) from HB.out.trans ⟨rfl, rfl, rfl, Nat.le_refl _, fun _ _ => rfl⟩)
        clear q1 q2 e1' e1'' e2' e2'' hx hy
        by_cases cxy : x = y
        · have HE2 := Lib.hid (show l1.take (j + 1) = l2.take (j + 1) by rw [List.take_add_one, List.take_add_one, HX.out.1, HX.out.2, HE.out, cxy])
          subst cxy
          go_upto_region 6 with fail
          go_quiet (fail)
          go_wp2_with fail
          go_roundw
          case rel => exact ⟨j + 1, by omega, by first | rfl | go_num, Lib.hid (HB2.out _), HE2⟩
          case measure => simp [intOf]; omega
        · have HF := Lib.hid (fun (q : Nat) => show P (.returned (.bool false)) (wr.drewN q) by
            rw [← HP.out]
            have : decide (l1 = l2) = false := by
              rw [decide_eq_false_iff_not]
              rintro rfl
              have h1 := HX.out.1
              rw [HX.out.2] at h1
              injection h1 with h1
              exact cxy h1.symm
            rw [this]
            exact ⟨rfl, HB2.out q⟩)
          clear HX
          by_cases q1 : x.txn = y.txn
          · by_cases q2 : x.res = y.res
            · have q3 : ¬ x.mode = y.mode := fun q3 => cxy (by cases x; cases y; simp at q1 q2 q3; rw [q1, q2, q3])
              clear cxy
              go_upto_region 6 with fail
              go_quiet (fail)
              go_wp2_with fail
              exact HF.out _
            · clear cxy
              go_upto_region 6 with fail
              go_quiet (fail)
              go_wp2_with fail
              exact HF.out _
          · clear cxy
            go_upto_region 6 with fail
            go_quiet (fail)
            go_wp2_with fail
            exact HF.out _
      · obtain rfl : j = n := by omega
        have cf : decide ((j : Int) < (j : Int)) = false := by simp
        have HF := Lib.hid (show P (.returned (.bool true)) wr by
          rw [← HP.out, decide_eq_true (take_eq_all HE.out HN.out HM.out)]
          exact ⟨rfl, HB.out⟩)
        go_wp2_with fail
        exact HF.out
  · have hd : decide (l1 = l2) = false := by
      rw [decide_eq_false_iff_not]
      rintro rfl
      exact c (hn.symm.trans hm)
    rw [hd]
    have hmn : ¬ (n : Int) = (m : Int) := by omega
    clear h1 h2 hn hm hc1 hc2 hm1 hm2 hd
    go_enter Tryz.func36, Tryz.ntmps36
    go_wp2_with fail
    go_ret
    exact ⟨rfl, Below.refl _ _⟩

set_option maxHeartbeats 4000000 in
theorem sameedges_any (w : World) (B1 B2 : Nat) (v1 v2 : Value) (l1 l2 : List Gv) (h1 : OwG w B1 v1 l1) (h2 : OwG w B2 v2 l2) :
    Calls Tryz.prog 37 #[v1, v2] w fun e w' => e = .returned (.bool (decide (l1 = l2))) ∧ Below w.heap.size w w' := by
  obtain ⟨a1, c1, e1, hc1, hm1⟩ := h1.sl
  obtain ⟨a2, c2, e2, hc2, hm2⟩ := h2.sl
  obtain ⟨n, hn⟩ : ∃ n, l1.length = n := ⟨_, rfl⟩
  obtain ⟨m, hm⟩ : ∃ m, l2.length = m := ⟨_, rfl⟩
  rw [hn] at e1 hc1
  rw [hm] at e2 hc2
  subst e1 e2
  have hn9 : n ≤ maxLen := Nat.le_trans hc1 hm1
  unfold maxLen at hn9
  have HH1 := Lib.hid h1
  have HH2 := Lib.hid h2
  have HN := Lib.hid hn
  have HM := Lib.hid hm
  by_cases c : n = m
  · subst c
    generalize hP : (fun (e : Ending) (w' : World) => e = .returned (.bool (decide (l1 = l2))) ∧ Below w.heap.size w w') = P
    have HP := Lib.hid hP
    clear hP h1 h2 hn hm hc1 hc2 hm1 hm2
    go_enter Tryz.func37, Tryz.ntmps37
    go_wp2_with fail
    go_loopw [5] (fun i wx => ∃ j : Nat, j ≤ n ∧ i = .int .i64 j ∧ Hid (Below w.heap.size w wx) ∧ Hid (l1.take j = l2.take j)) (fun i _ => n - (intOf i).toNat)
    case atStart => exact ⟨0, Nat.zero_le _, rfl, Lib.hid (Below.refl _ _), Lib.hid rfl⟩
    case round =>
      obtain ⟨j, hj, rfl, HB, HE⟩ := hrel
      by_cases cj : j < n
      · have cj1 : (j : Int) < (n : Int) := by omega
        obtain ⟨x, hx⟩ : ∃ x, l1[j]? = some x := ⟨_, List.getElem?_eq_getElem (by rw [HN.out]; exact cj)⟩
        obtain ⟨y, hy⟩ : ∃ y, l2[j]? = some y := ⟨_, List.getElem?_eq_getElem (by rw [HM.out]; exact cj)⟩
        have q1 : OwG wr B1 (.slice a1 n c1) l1 := (Frm.of_below (F := fun _ => False) HB.out).owG HH1.out (fun _ _ e => e)
        have q2 : OwG wr B2 (.slice a2 n c2) l2 := (Frm.of_below (F := fun _ => False) HB.out).owG HH2.out (fun _ _ e => e)
        obtain ⟨g1, cap1, e1, -, -, x0, x1, -⟩ := OwG.at q1 hx
        obtain ⟨g2, cap2, e2, -, -, y0, y1, -⟩ := OwG.at q2 hy
        injection e1 with e1 e1' e1''
        injection e2 with e2 e2' e2''
        subst e1 e2
        have HX := Lib.hid (And.intro hx hy)
        have hjw : IntKind.i64.wrap ((j : Int) + 1) = ((j + 1 : Nat) : Int) := by rw [IntWalk.i64_in _ (by omega)]; omega
        have HB2 := Lib.hid (fun (q : Nat) => show Below w.heap.size w (wr.drewN q) from HB.out.trans ⟨rfl, rfl, rfl, Nat.le_refl _, fun _ _ => rfl⟩)
        clear q1 q2 e1' e1'' e2' e2'' hx hy
        by_cases cxy : x = y
        · have HE2 := Lib.hid (show l1.take (j + 1) = l2.take (j + 1) by rw [List.take_add_one, List.take_add_one, HX.out.1, HX.out.2, HE.out, cxy])
          subst cxy
          go_upto_region 6 with fail
          go_quiet (fail)
          go_wp2_with fail
          go_roundw
          case rel => exact ⟨j + 1, by omega, by first | rfl | go_num, Lib.hid (HB2.out _), HE2⟩
          case measure => simp [intOf]; omega
        · have HF := Lib.hid (fun (q : Nat) => show P (.returned (.bool false)) (wr.drewN q) by
            rw [← HP.out]
            have : decide (l1 = l2) = false := by
              rw [decide_eq_false_iff_not]
              rintro rfl
              have h1 := HX.out.1
              rw [HX.out.2] at h1
              injection h1 with h1
              exact cxy h1.symm
            rw [this]
            exact ⟨rfl, HB2.out q⟩)
          clear HX
          by_cases q1 : x.1 = y.1
          · have q2 : ¬ x.2 = y.2 := fun q2 => cxy (Prod.ext q1 q2)
            clear cxy
            go_upto_region 6 with fail
            go_quiet (fail)
            go_wp2_with fail
            exact HF.out _
          · clear cxy
            go_upto_region 6 with fail
            go_quiet (fail)
            go_wp2_with fail
            exact HF.out _
      · obtain rfl : j = n := by omega
        have cf : decide ((j : Int) < (j : Int)) = false := by simp
        have HF := Lib.hid (show P (.returned (.bool true)) wr by
          rw [← HP.out, decide_eq_true (take_eq_all HE.out HN.out HM.out)]
          exact ⟨rfl, HB.out⟩)
        go_wp2_with fail
        exact HF.out
  · have hd : decide (l1 = l2) = false := by
      rw [decide_eq_false_iff_not]
      rintro rfl
      exact c (hn.symm.trans hm)
    rw [hd]
    have hmn : ¬ (n : Int) = (m : Int) := by omega
    clear h1 h2 hn hm hc1 hc2 hm1 hm2 hd
    go_enter Tryz.func37, Tryz.ntmps37
    go_wp2_with fail
    go_ret
    exact ⟨rfl, Below.refl _ _⟩

end Go.Proofs.YtelfinhpjokmdaaGreatDoor

namespace Go.Proofs.YtelfinhpjokmdaaGreatDoor
set_option maxRecDepth 100000
open Go.RowKit Go.Joins Go.ChangeShapes Go.WideShapes
set_option linter.unusedVariables false
set_option linter.unusedSimpArgs false

/-- a kind of row: how an element lies in its cells; the types of an element and of a slice of them -/
structure RK (P : Program) (α : Type) where
  enc : α → List Value
  n : Nat
  te : TypeId
  ts : TypeId
  bytes : Nat
  z : Value
  len : ∀ x, (enc x).length = n
  one : ∀ x, ∀ u ∈ enc x, u.oneCell' = true
  pos : 0 < n
  by0 : bytes ≤ 1024
  hu : P.underlying ts = some (.slice te)
  info : (P.info? te).map (fun i => (i.zero, i.size, i.bytes)) = some (some z, n, bytes)
  zc : z.cells.size = n
section
variable {P : Program} {α : Type} (K : RK P α)
def RK.cells (l : List α) : List Value := l.flatMap K.enc
theorem RK.cells_length (l : List α) : (K.cells l).length = l.length * K.n := by
  induction l with
  | nil => simp [RK.cells]
  | cons x r ih =>
    have : K.cells (x :: r) = K.enc x ++ K.cells r := rfl
    rw [this, List.length_append, ih, K.len, List.length_cons, Nat.add_mul]; omega
theorem RK.cells_app (l r : List α) : K.cells (l ++ r) = K.cells l ++ K.cells r := by unfold RK.cells; rw [List.flatMap_append]
theorem RK.cells_nil : K.cells [] = [] := rfl
theorem RK.cells_one (x : α) : K.cells [x] = K.enc x := by unfold RK.cells; simp
theorem RK.cells_at : ∀ (l : List α) (i j : Nat) (x : α), l[i]? = some x → j < K.n → (K.cells l)[i * K.n + j]? = (K.enc x)[j]?
  | [], i, j, x, h, hj => by simp at h
  | y :: r, 0, j, x, h, hj => by
    simp at h
    subst h
    rw [show K.cells (y :: r) = K.enc y ++ K.cells r from rfl, Nat.zero_mul, Nat.zero_add, List.getElem?_append_left (by rw [K.len]; exact hj)]
  | y :: r, i + 1, j, x, h, hj => by
    rw [List.getElem?_cons_succ] at h
    rw [show K.cells (y :: r) = K.enc y ++ K.cells r from rfl, List.getElem?_append_right (by rw [K.len, Nat.add_mul]; omega), K.len, ← RK.cells_at r i j x h hj]
    congr 1
    rw [Nat.add_mul]; omega
theorem RK.cells_mem (l : List α) : ∀ u ∈ K.cells l, u.oneCell' = true := by
  intro u hu
  unfold RK.cells at hu
  obtain ⟨x, -, hx⟩ := List.mem_flatMap.1 hu
  exact K.one x u hx
/-- a slice of them of the call's own: all behind B -/
def OwR (K : RK P α) (w : World) (B : Nat) (v : Value) (l : List α) : Prop := w.ownsRow B K.te K.n v l.length (K.cells l)
variable {K}
theorem OwR.nil (w : World) (B : Nat) : OwR K w B (.slice none 0 0) [] := World.ownsRow_nil w B _ _
theorem OwR.cases {w : World} {B : Nat} {v : Value} {l : List α} (h : OwR K w B v l) : (v = .slice none 0 0 ∧ l = []) ∨
    ∃ (g cap : Nat) (cur : List Value), v = .slice (some ⟨g, 0, none⟩) l.length cap ∧ B ≤ g ∧ w.heap[g]? = some (.cells cur.toArray K.te (0, 0)) ∧ l.length ≤ cap ∧ cap ≤ maxLen ∧ cur.length = cap * K.n ∧ cur.take (l.length * K.n) = K.cells l := by
  rcases h.2 with ⟨rfl, e⟩ | ⟨g, cap, cur, rfl, hb, hg, hn, hc, hs, ht⟩
  · exact .inl ⟨rfl, List.eq_nil_of_length_eq_zero e⟩
  · exact .inr ⟨g, cap, cur.toList, rfl, hb, by simpa using hg, hn, hc, by simpa using hs, ht⟩
theorem OwR.mk {w : World} {B g cap : Nat} {cur : List Value} {l : List α} (hb : B ≤ g) (hg : w.heap[g]? = some (.cells cur.toArray K.te (0, 0))) (hn : l.length ≤ cap) (hc : cap ≤ maxLen) (hs : cur.length = cap * K.n) (ht : cur.take (l.length * K.n) = K.cells l) :
    OwR K w B (.slice (some ⟨g, 0, none⟩) l.length cap) l :=
  ⟨K.cells_length l, .inr ⟨g, cap, cur.toArray, rfl, hb, hg, hn, hc, by simpa using hs, by simpa using ht⟩⟩
/-- a list that was just made, whole -/
theorem OwR.made (w : World) {B : Nat} (hB : B ≤ w.heap.size) (l : List α) (hl : l.length ≤ maxLen) : OwR K (w.alloc (.cells (K.cells l).toArray K.te)) B (.slice (some ⟨w.heap.size, 0, none⟩) l.length l.length) l :=
  OwR.mk hB (heap_alloc_new w _) (Nat.le_refl _) hl (K.cells_length l) (List.take_of_length_le (Nat.le_of_eq (K.cells_length l)))
theorem OwR.le {w : World} {B B' : Nat} {v : Value} {l : List α} (h : OwR K w B v l) (hb : B' ≤ B) : OwR K w B' v l := by
  rcases h.cases with ⟨rfl, rfl⟩ | ⟨g, cap, cur, rfl, h1, h2, h3, h4, h5, h6⟩
  · exact OwR.nil _ _
  · exact OwR.mk (Nat.le_trans hb h1) h2 h3 h4 h5 h6
theorem OwR.lt {w : World} {B : Nat} {v : Value} {l : List α} (h : OwR K w B v l) {k : Nat} (hk : v.ownBlock = some k) : B ≤ k ∧ k < w.heap.size ∧ ∃ cur, w.heap[k]? = some (.cells cur K.te (0, 0)) := by
  rcases h.cases with ⟨rfl, -⟩ | ⟨g, cap, cur, rfl, hb, h2, -⟩
  · simp [Value.ownBlock] at hk
  · simp only [Value.ownBlock, Option.some.injEq] at hk
    subst hk
    exact ⟨hb, (Array.getElem?_eq_some_iff.1 h2).1, _, h2⟩
theorem OwR.step {w w1 : World} {B : Nat} {v : Value} {l : List α} {F : Bl} (h : OwR K w B v l) (hf : Frm F w w1) (hv : ∀ k, v.ownBlock = some k → ¬ F k) : OwR K w1 B v l := hf.ownsRow h hv
theorem OwR.below {w w1 : World} {B : Nat} {v : Value} {l : List α} (h : OwR K w B v l) (hb : Below w.heap.size w w1) : OwR K w1 B v l := h.step (F := fun _ => False) (Frm.of_below hb) (fun _ _ e => e)
theorem OwR.sl {w : World} {B : Nat} {v : Value} {l : List α} (h : OwR K w B v l) : ∃ a c, v = .slice a l.length c ∧ l.length ≤ c ∧ c ≤ maxLen := by
  rcases h.cases with ⟨rfl, rfl⟩ | ⟨g, cap, cur, rfl, -, -, hn, hc, -⟩
  · exact ⟨_, _, rfl, Nat.le_refl _, by decide⟩
  · exact ⟨_, _, rfl, hn, hc⟩
theorem OwR.at {w : World} {B : Nat} {v : Value} {l : List α} (h : OwR K w B v l) {i : Nat} {x : α} (hi : l[i]? = some x) :
    ∃ g cap, v = .slice (some ⟨g, 0, none⟩) l.length cap ∧ B ≤ g ∧ g < w.heap.size ∧ l.length ≤ cap ∧ cap ≤ maxLen ∧ (∀ j u, (K.enc x)[j]? = some u → w.cell? ⟨g, i * K.n + j, none⟩ = some u) ∧ ∀ o, w.frozen? ⟨g, o, none⟩ = false := by
  have hl : i < l.length := (List.getElem?_eq_some_iff.1 hi).1
  rcases h.cases with ⟨-, rfl⟩ | ⟨g, cap, cur, rfl, hb, hg, hn, hc, hs, ht⟩
  · simp at hl
  · refine ⟨g, cap, rfl, hb, (Array.getElem?_eq_some_iff.1 hg).1, hn, hc, fun j u hj => ?_, fun o => unfrozen_of_block hg o⟩
    have hjn : j < K.n := by rw [← K.len x]; exact (List.getElem?_eq_some_iff.1 hj).1
    rw [← K.cells_at l i j x hi hjn, ← ht, List.getElem?_take] at hj
    rw [cell_of_block hg _]
    split at hj
    · simpa using hj
    · cases hj
theorem RK.parts (K : RK P α) : ∃ i0, P.info? K.te = some i0 ∧ i0.zero = some K.z ∧ i0.size = K.n ∧ i0.bytes = K.bytes := by
  have h := K.info
  cases e : P.info? K.te with
  | none => rw [e] at h; simp at h
  | some i0 =>
    rw [e] at h
    simp only [Option.map_some, Option.some.injEq, Prod.mk.injEq] at h
    exact ⟨i0, rfl, h.1, h.2.1, h.2.2⟩
/-- v' lies where v lay, or in new memory -/
def NewR (w : World) (v v' : Value) : Prop := ∀ k, v'.ownBlock = some k → v.ownBlock = some k ∨ w.heap.size ≤ k
theorem OwR.append (w : World) (B : Nat) (v : Value) (l : List α) (hown : OwR K w B v l) (hB : B ≤ w.heap.size) (ad : Addr) (m c : Nat) (rs : List α) (hm : rs.length = m)
    (hnews : ∀ j u, (K.cells rs)[j]? = some u → w.cell? (ad.add j) = some u) (hsz : l.length + m ≤ 4294967297) (ty : TypeId) :
    ∃ v' w', (Builtin.append_ #[K.ts, K.ts] ty #[v, .slice (some ad) m c]).run P w = .ok v' w' ∧ OwR K w' B v' (l ++ rs) ∧ w.grownBy w' v.ownBlock ∧ NewR w v v' := by
  obtain ⟨i0, hi, hz0, hz1, hz2⟩ := K.parts
  have hl : (K.cells rs).length = m * K.n := by rw [K.cells_length, hm]
  have hml : l.length + m ≤ maxLen := by unfold maxLen; omega
  have hby : (l.length + m) * K.bytes ≤ 140737488355328 := Nat.le_trans (Nat.mul_le_mul hsz K.by0) (by decide)
  obtain ⟨v', w', hr, h1, h2, h3, h4⟩ := run_append_own_at (P := P) (w := w) B K.ts ty K.te i0 K.z K.n K.bytes K.hu hi hz0 hz1 hz2 K.zc K.pos v l.length (K.cells l) hown ad m c (K.cells rs) hl hnews (K.cells_mem rs) hml hby hB
  refine ⟨v', w', hr, ?_, h2, fun k hk => ?_⟩
  · unfold OwR
    rw [K.cells_app, List.length_append, hm]
    exact h1
  · rcases h4 with e | e
    · exact .inl (by rw [← e]; exact hk)
    · rw [e] at hk
      injection hk with hk
      exact .inr (Nat.le_of_eq hk)
theorem OwR.wp {ops : Array Oper} {rest : List Oper} {o : Oper} {a : Act} {w : World} {Q : Exit → Act → World → Prop} (hgd : o.guard = none) (s x : Operand)
    (ho : o.op = .call { callee := .builtin .append, args := #[s, x], argTypes := #[K.ts, K.ts] })
    (B : Nat) (v : Value) (l : List α) (hs : a.eval s = v) (hown : OwR K w B v l) (hB : B ≤ w.heap.size) (ad : Addr) (m c : Nat) (rs : List α) (hm : rs.length = m) (hx : a.eval x = .slice (some ad) m c)
    (hnews : ∀ j u, (K.cells rs)[j]? = some u → w.cell? (ad.add j) = some u) (hsz : l.length + m ≤ 4294967297)
    (h : ∀ v' w', OwR K w' B v' (l ++ rs) → w.grownBy w' v.ownBlock → NewR w v v' → wpList P ops Q rest (a.put o.dst v') w') : wpList P ops Q (o :: rest) a w := by
  refine wpList_plain hgd fun K' hK' => ?_
  obtain ⟨v', w', hr, h1, h2, h3⟩ := OwR.append w B v l hown hB ad m c rs hm hnews hsz o.type
  unfold Oper.wp
  simp [execOp, ho, resolve, invoke, builtin, hs, hx, hr, Result.andThen]
  exact hK' _ _ (h v' w' h1 h2 h3)
/-- the cells of a list that was just made -/
theorem OwR.made_cells (w : World) (l : List α) : ∀ j u, (K.cells l)[j]? = some u → (w.alloc (.cells (K.cells l).toArray K.te)).cell? ((⟨w.heap.size, 0, none⟩ : Addr).add j) = some u := by
  intro j u hj
  have ea : (⟨w.heap.size, 0, none⟩ : Addr).add j = ⟨w.heap.size, j, none⟩ := by unfold Addr.add; split <;> simp_all
  rw [ea, cell_of_block (heap_alloc_new w _) j]
  simpa using hj
end

end Go.Proofs.YtelfinhpjokmdaaGreatDoor

namespace Go.Proofs.YtelfinhpjokmdaaGreatDoor
open Go.RowKit Go.Joins Go.ChangeShapes Go.WideShapes
set_option linter.unusedVariables false
set_option linter.unusedSimpArgs false

theorem seven {n : Nat} (h : n < 7) : n = 0 ∨ n = 1 ∨ n = 2 ∨ n = 3 ∨ n = 4 ∨ n = 5 ∨ n = 6 := by omega
theorem kn_no {a : Int} (h : kn a = false) : a < 0 ∨ 6 < a := by
  simp only [kn, Bool.and_eq_false_iff, decide_eq_false_iff_not] at h
  omega
theorem join_eq : ∀ a, a < 7 → ∀ b, b < 7 → (decide (jnI (a : Nat) (b : Nat) = (a : Nat)) = cvI (a : Nat) (b : Nat) ∧ kn (jnI (a : Nat) (b : Nat)) = true) := by decide +kernel
theorem rright_any (a : Int) (w : World) : Calls Tryz.prog 24 #[.int .i64 a] w fun e w' => e = .returned (.bool (mrg a)) ∧ w = w' := by
  obtain ⟨r, hr⟩ : ∃ r, mrg a = r := ⟨_, rfl⟩
  rw [hr]
  by_cases c1 : 0 < a
  · by_cases c2 : a < 7
    · obtain rfl : r = true := by rw [← hr]; simp [mrg]; omega
      clear hr
      go_enter Tryz.func24, Tryz.ntmps24
      go_wp2
      go_ret
      exact ⟨rfl, rfl⟩
    · obtain rfl : r = false := by rw [← hr]; simp [mrg]; omega
      clear hr
      go_enter Tryz.func24, Tryz.ntmps24
      go_wp2
      go_ret
      exact ⟨rfl, rfl⟩
  · obtain rfl : r = false := by rw [← hr]; simp [mrg]; omega
    clear hr
    go_enter Tryz.func24, Tryz.ntmps24
    go_wp2
    go_ret
    exact ⟨rfl, rfl⟩
set_option maxHeartbeats 4000000 in
theorem rtog_no (a b : Int) (w : World) (h : kn a = false ∨ kn b = false) : Calls Tryz.prog 53 #[.int .i64 a, .int .i64 b] w fun e w' => e = .returned (.bool false) ∧ Below w.heap.size w w' := by
  by_cases c1 : a < 0
  · go_enter Tryz.func53, Tryz.ntmps53
    go_wp2
    go_ret
    exact ⟨rfl, (Below.refl _ _).alloc (Nat.le_refl _) _⟩
  · by_cases c2 : 6 < a
    · go_enter Tryz.func53, Tryz.ntmps53
      go_wp2
      go_ret
      exact ⟨rfl, (Below.refl _ _).alloc (Nat.le_refl _) _⟩
    · by_cases c3 : b < 0
      · go_enter Tryz.func53, Tryz.ntmps53
        go_wp2
        go_ret
        exact ⟨rfl, (Below.refl _ _).alloc (Nat.le_refl _) _⟩
      · have c4 : 6 < b := by
          rcases h with h | h
          · have := kn_no h; omega
          · have := kn_no h; omega
        go_enter Tryz.func53, Tryz.ntmps53
        go_wp2
        go_ret
        exact ⟨rfl, (Below.refl _ _).alloc (Nat.le_refl _) _⟩
set_option maxHeartbeats 40000000 in
theorem rtog_yes (a b : Nat) (w : World) (ha : a < 7) (hb : b < 7) : Calls Tryz.prog 53 #[.int .i64 a, .int .i64 b] w fun e w' => e = .returned (.bool (tgI a b)) ∧ Below w.heap.size w w' := by
  rcases seven ha with rfl | rfl | rfl | rfl | rfl | rfl | rfl <;> rcases seven hb with rfl | rfl | rfl | rfl | rfl | rfl | rfl
  all_goals
    go_enter Tryz.func53, Tryz.ntmps53
    go_wp2
    go_ret
    exact ⟨rfl, (Below.refl _ _).alloc (Nat.le_refl _) _⟩

end Go.Proofs.YtelfinhpjokmdaaGreatDoor

namespace Go.Proofs.YtelfinhpjokmdaaGreatDoor
open Go.RowKit Go.Joins Go.ChangeShapes Go.WideShapes
set_option linter.unusedVariables false
set_option linter.unusedSimpArgs false

set_option maxHeartbeats 4000000 in
theorem rjoin_no (a b : Int) (w : World) (h : kn a = false ∨ kn b = false) : Calls Tryz.prog 26 #[.int .i64 a, .int .i64 b] w fun e w' => e = .returned (.int .i64 0) ∧ Below w.heap.size w w' := by
  by_cases c1 : a < 0
  · go_enter Tryz.func26, Tryz.ntmps26
    go_wp2
    go_ret
    exact ⟨rfl, (Below.refl _ _).alloc (Nat.le_refl _) _⟩
  · by_cases c2 : 6 < a
    · go_enter Tryz.func26, Tryz.ntmps26
      go_wp2
      go_ret
      exact ⟨rfl, (Below.refl _ _).alloc (Nat.le_refl _) _⟩
    · by_cases c3 : b < 0
      · go_enter Tryz.func26, Tryz.ntmps26
        go_wp2
        go_ret
        exact ⟨rfl, (Below.refl _ _).alloc (Nat.le_refl _) _⟩
      · have c4 : 6 < b := by
          rcases h with h | h
          · have := kn_no h; omega
          · have := kn_no h; omega
        go_enter Tryz.func26, Tryz.ntmps26
        go_wp2
        go_ret
        exact ⟨rfl, (Below.refl _ _).alloc (Nat.le_refl _) _⟩
set_option maxHeartbeats 40000000 in
theorem rjoin_yes (a b : Nat) (w : World) (ha : a < 7) (hb : b < 7) : Calls Tryz.prog 26 #[.int .i64 a, .int .i64 b] w fun e w' => e = .returned (.int .i64 (jnI a b)) ∧ Below w.heap.size w w' := by
  rcases seven ha with rfl | rfl | rfl | rfl | rfl | rfl | rfl <;> rcases seven hb with rfl | rfl | rfl | rfl | rfl | rfl | rfl
  all_goals
    go_enter Tryz.func26, Tryz.ntmps26
    go_wp2
    go_ret
    exact ⟨rfl, (Below.refl _ _).alloc (Nat.le_refl _) _⟩

theorem cv_le : ∀ m, m < 7 → ∀ b : Int, kn b = false → cvI m b = false := fun m _ b h => by unfold cvI; rw [h]; simp
theorem jn_no {a b : Int} (h : kn a = false ∨ kn b = false) : jnI a b = 0 := by
  have hc : ∀ m : Int, (cvI m a && cvI m b) = false := by
    intro m
    rcases h with h | h
    · simp [cvI, h]
    · simp [cvI, h]
  have hn : ∀ n m, jnN a b m n = 0 := by
    intro n
    induction n with
    | zero => intro m; rfl
    | succ n ih =>
      intro m
      unfold jnN
      rw [hc m]
      exact ih (m + 1)
  exact hn 7 0
theorem rjoin_any (a b : Int) (w : World) : Calls Tryz.prog 26 #[.int .i64 a, .int .i64 b] w fun e w' => e = .returned (.int .i64 (jnI a b)) ∧ Below w.heap.size w w' := by
  by_cases h : kn a = false ∨ kn b = false
  · rw [jn_no h]
    exact rjoin_no a b w h
  · obtain ⟨na, rfl, la⟩ := kn_cases (a := a) (by cases e : kn a with | true => rfl | false => exact absurd (.inl e) h)
    obtain ⟨nb, rfl, lb⟩ := kn_cases (a := b) (by cases e : kn b with | true => rfl | false => exact absurd (.inr e) h)
    exact rjoin_yes na nb w la lb
theorem rtog_any (a b : Int) (w : World) : Calls Tryz.prog 53 #[.int .i64 a, .int .i64 b] w fun e w' => e = .returned (.bool (tgI a b)) ∧ Below w.heap.size w w' := by
  by_cases h : kn a = false ∨ kn b = false
  · have e : tgI a b = false := by
      unfold tgI
      rcases h with h | h
      · simp [h]
      · simp [h]
    rw [e]
    exact rtog_no a b w h
  · obtain ⟨na, rfl, la⟩ := kn_cases (a := a) (by cases e : kn a with | true => rfl | false => exact absurd (.inl e) h)
    obtain ⟨nb, rfl, lb⟩ := kn_cases (a := b) (by cases e : kn b with | true => rfl | false => exact absurd (.inr e) h)
    exact rtog_yes na nb w la lb
end Go.Proofs.YtelfinhpjokmdaaGreatDoor

namespace Go.Proofs.YtelfinhpjokmdaaGreatDoor
set_option maxRecDepth 100000
open Go.RowKit Go.Joins Go.ChangeShapes Go.WideShapes
open Go.MapKept
set_option linter.unusedVariables false
set_option linter.unnecessarySimpa false
set_option linter.unusedSimpArgs false

abbrev Wv := Ws RS
theorem infoW : (Tryz.prog.info? 66).map (fun i => (i.zero, i.size, i.bytes)) = some (some (.agg #[.int .i64 0, .string ByteArray.empty, .int .i64 0, .bool false]), 4, 40) := by kernel_rfl
def KL : RK Tryz.prog Lv where
  enc x := [.int .i64 x.txn, .string ⟨x.res.toArray⟩, .int .i64 x.mode]
  n := 3
  te := 42
  ts := 27
  bytes := 32
  z := .agg #[.int .i64 0, .string ByteArray.empty, .int .i64 0]
  len _ := rfl
  one x u hu := by
    simp only [List.mem_cons, List.not_mem_nil, or_false] at hu
    rcases hu with rfl | rfl | rfl <;> rfl
  pos := by decide
  by0 := by decide
  hu := Tryz.underlying27
  info := infoL
  zc := rfl
def KW : RK Tryz.prog Wv where
  enc x := [.int .i64 x.l.txn, .string ⟨x.l.res.toArray⟩, .int .i64 x.l.mode, .bool x.ch]
  n := 4
  te := 66
  ts := 28
  bytes := 40
  z := .agg #[.int .i64 0, .string ByteArray.empty, .int .i64 0, .bool false]
  len _ := rfl
  one x u hu := by
    simp only [List.mem_cons, List.not_mem_nil, or_false] at hu
    rcases hu with rfl | rfl | rfl | rfl <;> rfl
  pos := by decide
  by0 := by decide
  hu := Tryz.underlying28
  info := infoW
  zc := by rfl
theorem klcells : ∀ l : List Lv, KL.cells l = lcells l
  | [] => rfl
  | x :: r => by rw [show KL.cells (x :: r) = KL.enc x ++ KL.cells r from rfl, klcells r]; rfl
theorem owl_of {w : World} {B : Nat} {v : Value} {l : List Lv} (h : OwR KL w B v l) : OwL w B v l := by
  unfold OwR at h
  rw [klcells] at h
  exact h
theorem OwL.kl {w : World} {B : Nat} {v : Value} {l : List Lv} (h : OwL w B v l) : OwR KL w B v l := by
  unfold OwR
  rw [klcells]
  exact h
/-- the cells of a lock of the row -/
theorem kl_at {w : World} {B g n cap : Nat} {l : List Lv} (h : OwR KL w B (.slice (some ⟨g, 0, none⟩) n cap) l) {i : Nat} {x : Lv} (hi : l[i]? = some x) :
    w.cell? ⟨g, i * 3, none⟩ = some (.int .i64 x.txn) ∧ w.cell? ⟨g, i * 3 + 1, none⟩ = some (.string ⟨x.res.toArray⟩) ∧ w.cell? ⟨g, i * 3 + 2, none⟩ = some (.int .i64 x.mode) ∧ ∀ o, w.frozen? ⟨g, o, none⟩ = false := by
  obtain ⟨g', cap', e, -, -, -, -, hc, hf⟩ := OwR.at h hi
  injection e with e1 e2 e3
  injection e1 with e1
  injection e1 with e1
  subst e1
  exact ⟨hc 0 _ rfl, hc 1 _ rfl, hc 2 _ rfl, hf⟩
theorem kw_at {w : World} {B g n cap : Nat} {l : List Wv} (h : OwR KW w B (.slice (some ⟨g, 0, none⟩) n cap) l) {i : Nat} {x : Wv} (hi : l[i]? = some x) :
    w.cell? ⟨g, i * 4, none⟩ = some (.int .i64 x.l.txn) ∧ w.cell? ⟨g, i * 4 + 1, none⟩ = some (.string ⟨x.l.res.toArray⟩) ∧ w.cell? ⟨g, i * 4 + 2, none⟩ = some (.int .i64 x.l.mode) ∧ w.cell? ⟨g, i * 4 + 3, none⟩ = some (.bool x.ch) ∧ ∀ o, w.frozen? ⟨g, o, none⟩ = false := by
  obtain ⟨g', cap', e, -, -, -, -, hc, hf⟩ := OwR.at h hi
  injection e with e1 e2 e3
  injection e1 with e1
  injection e1 with e1
  subst e1
  exact ⟨hc 0 _ rfl, hc 1 _ rfl, hc 2 _ rfl, hc 3 _ rfl, hf⟩
/-- a row that isn't empty has a block -/
theorem OwR.blk {P : Program} {α : Type} {K : RK P α} {w : World} {B : Nat} {a : Option Addr} {n cap : Nat} {l : List α} (h : OwR K w B (.slice a n cap) l) {i : Nat} (hi : i < l.length) : ∃ g, a = some ⟨g, 0, none⟩ ∧ n = l.length ∧ B ≤ g ∧ g < w.heap.size := by
  obtain ⟨g, cp, e, hb, hl, -⟩ := OwR.at h (List.getElem?_eq_getElem hi)
  injection e with e1 e2 e3
  exact ⟨g, e1, e2, hb, hl⟩
/-- a row whose cells turned -/
theorem OwR.upd {P : Program} {α : Type} {K : RK P α} {w w' : World} {B g n cap : Nat} {l l' : List α} {cur cur' : List Value} (h : OwR K w B (.slice (some ⟨g, 0, none⟩) n cap) l) (hg : w.heap[g]? = some (.cells cur.toArray K.te (0, 0)))
    (hg' : w'.heap[g]? = some (.cells cur'.toArray K.te (0, 0))) (hl : l'.length = l.length) (hc : cur'.length = cur.length) (hx : ∀ i j x, l'[i]? = some x → j < K.n → cur'[i * K.n + j]? = (K.enc x)[j]?) : OwR K w' B (.slice (some ⟨g, 0, none⟩) n cap) l' := by
  rcases h.cases with ⟨e, -⟩ | ⟨g1, cap1, cur1, e, hb, h2, h3, h4, h5, h6⟩
  · cases e
  · injection e with e1 e2 e3
    injection e1 with e1
    injection e1 with e1
    subst e1 e3
    rw [hg] at h2
    injection h2 with h2
    injection h2 with h2
    have hcc : cur1 = cur := by simpa using h2.symm
    subst hcc
    rw [e2, ← hl]
    refine OwR.mk hb hg' (by rw [hl]; exact h3) h4 (by rw [hc]; exact h5) ?_
    apply List.ext_getElem?
    intro j
    rw [List.getElem?_take]
    by_cases hj : j < l'.length * K.n
    · rw [if_pos hj]
      have hp := K.pos
      have hd : j / K.n < l'.length := (Nat.div_lt_iff_lt_mul hp).2 hj
      have hm : j % K.n < K.n := Nat.mod_lt _ hp
      have hj2 : j / K.n * K.n + j % K.n = j := by rw [Nat.mul_comm]; exact Nat.div_add_mod j K.n
      have := hx (j / K.n) (j % K.n) _ (List.getElem?_eq_getElem hd) hm
      rw [hj2] at this
      rw [this, ← K.cells_at l' _ _ _ (List.getElem?_eq_getElem hd) hm, hj2]
    · rw [if_neg hj]
      rw [List.getElem?_eq_none (by rw [K.cells_length]; omega)]
theorem kl_cell {cur : List Value} {l : List Lv} (h6 : cur.take (l.length * 3) = KL.cells l) {i : Nat} {x : Lv} (hi : l[i]? = some x) {j : Nat} {u : Value} (hj : j < 3) (hu : (KL.enc x)[j]? = some u) : cur[i * 3 + j]? = some u := by
  rw [← KL.cells_at l i j x hi hj, show i * KL.n + j = i * 3 + j from rfl, ← h6, List.getElem?_take] at hu
  split at hu
  · exact hu
  · cases hu
/-- the mode of a lock of the row set -/
theorem kl_mode {w : World} {B g n cap : Nat} {l : List Lv} (h : OwR KL w B (.slice (some ⟨g, 0, none⟩) n cap) l) {i : Nat} {x : Lv} (hi : l[i]? = some x) (m : Int) :
    OwR KL (w.setCell ⟨g, i * 3 + 2, none⟩ (.int .i64 m)) B (.slice (some ⟨g, 0, none⟩) n cap) (l.set i ⟨x.txn, x.res, m⟩) := by
  have hil : i < l.length := (List.getElem?_eq_some_iff.1 hi).1
  rcases h.cases with ⟨e, -⟩ | ⟨g1, cap1, cur, e, hb, h2, h3, h4, h5, h6⟩
  · cases e
  · injection e with e1 e2 e3
    injection e1 with e1
    injection e1 with e1
    subst e1
    have hn3 : KL.n = 3 := rfl
    rw [hn3] at h5 h6
    have hcl : cur.length = cap1 * 3 := h5
    have h7 := h2
    refine OwR.upd h h2 (cur' := cur.set (i * 3 + 2) (.int .i64 m)) ?_ (by simp) (by simp) ?_
    · rw [heap_setCell_same w g (i * 3 + 2) _ _ _ h2]
      congr 2
      simp
    · intro q j y hy hj
      rw [hn3] at hj ⊢
      have hql : q < l.length := by have := (List.getElem?_eq_some_iff.1 hy).1; simpa using this
      rw [List.getElem?_set] at hy ⊢
      by_cases hq : i = q
      · subst hq
        rw [if_pos rfl, if_pos hil] at hy
        injection hy with hy
        subst hy
        have e0 : ∀ j u, j < 3 → (KL.enc x)[j]? = some u → cur[i * 3 + j]? = some u := fun j u hj hu => by
          have hc := kl_cell h6 hi hj hu
          exact hc
        match j, hj with
        | 0, _ => rw [if_neg (by omega)]; exact e0 0 _ (by decide) rfl
        | 1, _ => rw [if_neg (by omega)]; exact e0 1 _ (by decide) rfl
        | 2, _ => rw [if_pos rfl, if_pos (by rw [hcl]; omega)]; rfl
      · rw [if_neg hq] at hy
        rw [if_neg (by omega)]
        have hu : ∃ u, (KL.enc y)[j]? = some u := ⟨_, List.getElem?_eq_getElem (by rw [KL.len]; exact hj)⟩
        obtain ⟨u, hu⟩ := hu
        rw [hu]
        exact kl_cell h6 hy hj hu
/-- a lock of the row set -/
theorem kl_set {w : World} {B g n cap : Nat} {l : List Lv} (h : OwR KL w B (.slice (some ⟨g, 0, none⟩) n cap) l) {i : Nat} (hil : i < l.length) (x : Lv) :
    OwR KL (((w.setCell ⟨g, i * 3, none⟩ (.int .i64 x.txn)).setCell ⟨g, i * 3 + 1, none⟩ (.string ⟨x.res.toArray⟩)).setCell ⟨g, i * 3 + 2, none⟩ (.int .i64 x.mode)) B (.slice (some ⟨g, 0, none⟩) n cap) (l.set i x) := by
  rcases h.cases with ⟨e, -⟩ | ⟨g1, cap1, cur, e, hb, h2, h3, h4, h5, h6⟩
  · cases e
  · injection e with e1 e2 e3
    injection e1 with e1
    injection e1 with e1
    subst e1
    have hn3 : KL.n = 3 := rfl
    rw [hn3] at h5 h6
    have hcl : cur.length = cap1 * 3 := h5
    refine OwR.upd h h2 (cur' := ((cur.set (i * 3) (.int .i64 x.txn)).set (i * 3 + 1) (.string ⟨x.res.toArray⟩)).set (i * 3 + 2) (.int .i64 x.mode)) ?_ (by simp) (by simp) ?_
    · have a1 := heap_setCell_same w g (i * 3) _ _ (.int .i64 x.txn) h2
      have a2 := heap_setCell_same _ g (i * 3 + 1) _ _ (.string ⟨x.res.toArray⟩) a1
      rw [heap_setCell_same _ g (i * 3 + 2) _ _ (.int .i64 x.mode) a2]
      congr 2
      simp
    · intro q j y hy hj
      rw [hn3] at hj ⊢
      rw [List.getElem?_set] at hy
      by_cases hq : i = q
      · subst hq
        rw [if_pos rfl, if_pos hil] at hy
        injection hy with hy
        subst hy
        match j, hj with
        | 0, _ => rw [List.getElem?_set, if_neg (by omega), List.getElem?_set, if_neg (by omega), List.getElem?_set, if_pos (by omega), if_pos (by omega)]; rfl
        | 1, _ => rw [List.getElem?_set, if_neg (by omega), List.getElem?_set, if_pos rfl, if_pos (by simp; omega)]; rfl
        | 2, _ => rw [List.getElem?_set, if_pos rfl, if_pos (by simp; omega)]; rfl
      · rw [if_neg hq] at hy
        rw [List.getElem?_set, if_neg (by omega), List.getElem?_set, if_neg (by omega), List.getElem?_set, if_neg (by omega)]
        obtain ⟨u, hu⟩ : ∃ u, (KL.enc y)[j]? = some u := ⟨_, List.getElem?_eq_getElem (by rw [KL.len]; exact hj)⟩
        rw [hu]
        exact kl_cell h6 hy hj hu

/-- the document's table: its pointer's block, its lists -/
structure RfM (w : World) (B b : Nat) (vh vw : Value) (H : List Lv) (W : List Wv) : Prop where
  hd : w.heap[b]? = some (.cells #[vh, vw] 30 (0, 0))
  oh : OwR KL w B vh H
  ow : OwR KW w B vw W
  lo : B ≤ b
def blkD (b : Nat) (vh vw : Value) (k : Nat) : Prop := k = b ∨ vh.ownBlock = some k ∨ vw.ownBlock = some k
section
variable {w w' : World} {B b : Nat} {vh vw vh' vw' : Value} {H H' : List Lv} {W W' : List Wv} {F : Bl}
theorem RfM.lt (h : RfM w B b vh vw H W) : b < w.heap.size := (Array.getElem?_eq_some_iff.1 h.hd).1
theorem RfM.blk (h : RfM w B b vh vw H W) {k : Nat} (hk : blkD b vh vw k) : B ≤ k ∧ k < w.heap.size := by
  rcases hk with rfl | e | e
  · exact ⟨h.lo, h.lt⟩
  · exact ⟨(h.oh.lt e).1, (h.oh.lt e).2.1⟩
  · exact ⟨(h.ow.lt e).1, (h.ow.lt e).2.1⟩
theorem RfM.nh (h : RfM w B b vh vw H W) : vh.ownBlock ≠ some b := fun e => by
  obtain ⟨-, -, cur, e2⟩ := h.oh.lt e
  rw [h.hd] at e2
  injection e2 with e2
  injection e2 with _ e2
  exact absurd e2 (by decide)
theorem RfM.nw (h : RfM w B b vh vw H W) : vw.ownBlock ≠ some b := fun e => by
  obtain ⟨-, -, cur, e2⟩ := h.ow.lt e
  rw [h.hd] at e2
  injection e2 with e2
  injection e2 with _ e2
  exact absurd e2 (by decide)
theorem RfM.nn (h : RfM w B b vh vw H W) {k : Nat} (e1 : vh.ownBlock = some k) : vw.ownBlock ≠ some k := fun e => by
  obtain ⟨-, -, cur, e2⟩ := h.oh.lt e1
  obtain ⟨-, -, cur', e3⟩ := h.ow.lt e
  rw [e2] at e3
  injection e3 with e3
  injection e3 with _ e3
  exact absurd e3 (by decide)
theorem RfM.cells (h : RfM w B b vh vw H W) : w.cell? ⟨b, 0, none⟩ = some vh ∧ w.cell? ⟨b, 1, none⟩ = some vw ∧ ∀ o, w.frozen? ⟨b, o, none⟩ = false :=
  ⟨by rw [cell_of_block h.hd]; rfl, by rw [cell_of_block h.hd]; rfl, fun o => unfrozen_of_block h.hd o⟩
theorem RfM.step (h : RfM w B b vh vw H W) (hf : Frm F w w') (hd : ∀ k, blkD b vh vw k → ¬ F k) : RfM w' B b vh vw H W :=
  ⟨(hf.heap h.lt (hd b (.inl rfl))).trans h.hd, h.oh.step hf (fun k e => hd k (.inr (.inl e))), h.ow.step hf (fun k e => hd k (.inr (.inr e))), h.lo⟩
theorem RfM.below (h : RfM w B b vh vw H W) (hb : Below w.heap.size w w') : RfM w' B b vh vw H W := h.step (F := fun _ => False) (Frm.of_below hb) (fun _ _ e => e)
/-- another list of locks -/
theorem RfM.setH (h : RfM w B b vh vw H W) (ho : OwR KL w B vh' H') : RfM (w.setCell ⟨b, 0, none⟩ vh') B b vh' vw H' W := by
  have hf : Frm (fun k => k = b) w (w.setCell ⟨b, 0, none⟩ vh') := Frm.set1 (F := fun k => k = b) w rfl _ _
  have hn : vh'.ownBlock ≠ some b := fun e => by
    obtain ⟨-, -, cur, e2⟩ := ho.lt e
    rw [h.hd] at e2
    injection e2 with e2
    injection e2 with _ e2
    exact absurd e2 (by decide)
  refine ⟨?_, ho.step hf (fun k e c => hn (by rw [e, c])), h.ow.step hf (fun k e c => h.nw (by rw [e, c])), h.lo⟩
  rw [heap_setCell_same w b 0 _ _ _ h.hd]
  rfl
/-- another list of wishes -/
theorem RfM.setW (h : RfM w B b vh vw H W) (ho : OwR KW w B vw' W') : RfM (w.setCell ⟨b, 1, none⟩ vw') B b vh vw' H W' := by
  have hf : Frm (fun k => k = b) w (w.setCell ⟨b, 1, none⟩ vw') := Frm.set1 (F := fun k => k = b) w rfl _ _
  have hn : vw'.ownBlock ≠ some b := fun e => by
    obtain ⟨-, -, cur, e2⟩ := ho.lt e
    rw [h.hd] at e2
    injection e2 with e2
    injection e2 with _ e2
    exact absurd e2 (by decide)
  refine ⟨?_, h.oh.step hf (fun k e c => h.nh (by rw [e, c])), ho.step hf (fun k e c => hn (by rw [e, c])), h.lo⟩
  rw [heap_setCell_same w b 1 _ _ _ h.hd]
  rfl
end
/-- from one world to another only the table's blocks turned -/
def WentD (w w' : World) (B b : Nat) (vh vw : Value) (H : List Lv) (W : List Wv) : Prop := ∃ vh' vw', RfM w' B b vh' vw' H W ∧ Frm (blkD b vh vw) w w' ∧ New w (blkD b vh vw) (blkD b vh' vw')

/-- a lock put into the list, told by its place -/
theorem gv_at {R : Type} [DecidableEq R] (O : OrdR R) (l : Lk R) : ∀ (H : List (Lk R)) (k : Nat), (∀ h ∈ H.take k, ¬ keyE l h ∧ ¬ ahd O l h) → (∀ h ∈ H.drop k, ¬ keyE l h ∧ ahd O l h) → gv O l H = H.take k ++ l :: H.drop k
  | [], k, _, _ => by simp [gv]
  | h :: r, 0, _, h2 => by
    obtain ⟨a, b⟩ := h2 h (by simp)
    simp [gv, a, b]
  | h :: r, k + 1, h1, h2 => by
    obtain ⟨a, b⟩ := h1 h (by simp)
    have := gv_at O l r k (fun x hx => h1 x (by simp [hx])) (fun x hx => h2 x (by simpa using hx))
    simp [gv, a, b, this]
/-- a lock of the same transaction and thing takes the other's place -/
theorem gv_same {R : Type} [DecidableEq R] (O : OrdR R) (l : Lk R) : ∀ (H : List (Lk R)) (k : Nat) (x : Lk R), SrtL O H → H[k]? = some x → keyE l x → gv O l H = H.set k l
  | [], k, x, _, hk, _ => by simp at hk
  | h :: r, 0, x, _, hk, e => by
    simp at hk
    subst hk
    simp [gv, e]
  | h :: r, k + 1, x, hs, hk, e => by
    have hk' : r[k]? = some x := by simpa using hk
    obtain ⟨h1, h2⟩ := List.pairwise_cons.1 hs
    have hx := h1 x (List.mem_of_getElem? hk')
    have n1 : ¬ keyE l h := fun c => ahd_key O hx ⟨c.1.symm.trans e.1, c.2.symm.trans e.2⟩
    have n2 : ¬ ahd O l h := fun c => ahd_key O (ahd_tr O c hx) e
    have := gv_same O l r k x h2 hk' e
    simp [gv, n1, n2, this]

end Go.Proofs.YtelfinhpjokmdaaGreatDoor

namespace Go.Proofs.YtelfinhpjokmdaaGreatDoor
set_option maxRecDepth 100000
open Go.RowKit Go.Joins Go.ChangeShapes Go.WideShapes
open Go.MapKept
set_option linter.unusedVariables false
set_option linter.unnecessarySimpa false
set_option linter.unusedSimpArgs false

theorem ba_ne {s t : RS} (h : ¬ s = t) : ¬ (⟨s.toArray⟩ : ByteArray) = ⟨t.toArray⟩ := fun e => h (by
  have h1 := congrArg ByteArray.data e
  have h2 := congrArg Array.toList h1
  simpa using h2)
theorem bl_eq : ∀ a b : RS, Op.bytesLess a b = decide (a < b)
  | [], [] => by simp [Op.bytesLess]
  | [], _ :: _ => by simp [Op.bytesLess]
  | _ :: _, [] => by simp [Op.bytesLess]
  | x :: a, y :: b => by
    unfold Op.bytesLess
    rw [bl_eq a b, Bool.eq_iff_iff]
    simp only [Bool.or_eq_true, Bool.and_eq_true, decide_eq_true_eq, beq_iff_eq, List.cons_lt_cons_iff]
theorem mdO_nil (t : Int) (s : RS) : mdO ([] : List Lv) t s = 0 := rfl
theorem mdO_cons (x : Lv) (r : List Lv) (t : Int) (s : RS) : mdO (x :: r) t s = if x.txn = t ∧ x.res = s then x.mode else mdO r t s := rfl
theorem drop_at {α : Type} {l : List α} {j : Nat} {x : α} (h : l[j]? = some x) : l.drop j = x :: l.drop (j + 1) := by
  obtain ⟨h1, h2⟩ := List.getElem?_eq_some_iff.1 h
  rw [List.drop_eq_getElem_cons h1, h2]
variable {w : World} {B b : Nat} {vh vw : Value} {H : List Lv} {W : List Wv}
set_option maxHeartbeats 4000000 in
theorem rmode_any (h : RfM w B b vh vw H W) (t : Int) (s : RS) :
    Calls Tryz.prog 25 #[.pointer (some ⟨b, 0, none⟩), .int .i64 t, .string ⟨s.toArray⟩] w fun e w' => e = .returned (.int .i64 (mdO H t s)) ∧ w' = w := by
  obtain ⟨ga, gc, hge, hgc, hgm⟩ := h.oh.sl
  obtain ⟨n, hn⟩ : ∃ n, H.length = n := ⟨_, rfl⟩
  rw [hn] at hge hgc
  subst hge
  unfold maxLen at hgm
  have hn9 : n ≤ 9223372036854775807 := by omega
  have HN := Lib.hid hn
  have HM := Lib.hid h
  obtain ⟨c0, -, -⟩ := h.cells
  obtain ⟨z, hz⟩ : ∃ z, mdO H t s = z := ⟨_, rfl⟩
  rw [hz]
  have HZ := Lib.hid (show mdO (H.drop 0) t s = z from hz)
  generalize hP : (fun (e : Ending) (w' : World) => e = .returned (.int .i64 z) ∧ w' = w) = P
  have HP := Lib.hid hP
  clear h hn hgc hgm hz hP
  go_enter Tryz.func25, Tryz.ntmps25
  go_wp2_with fail
  go_loopw [7] (fun i wx => ∃ j : Nat, j ≤ n ∧ i = .int .i64 j ∧ wx = w ∧ Hid (mdO (H.drop j) t s = z)) (fun i _ => n - (intOf i).toNat)
  case atStart => exact ⟨0, Nat.zero_le _, rfl, rfl, HZ⟩
  case round =>
    clear HZ
    obtain ⟨j, hj, rfl, rfl, HZ⟩ := hrel
    by_cases cj : j < n
    · have cj1 : (j : Int) < (n : Int) := by omega
      obtain ⟨x, hx⟩ : ∃ x, H[j]? = some x := ⟨_, List.getElem?_eq_getElem (by rw [HN.out]; exact cj)⟩
      obtain ⟨g, rfl, -, -, -⟩ := HM.out.oh.blk (i := j) (by rw [HN.out]; exact cj)
      obtain ⟨x0, x1, x2, -⟩ := kl_at HM.out.oh hx
      have hjw : IntKind.i64.wrap ((j : Int) + 1) = ((j + 1 : Nat) : Int) := by rw [IntWalk.i64_in _ (by omega)]; omega
      have hdz := HZ.out
      rw [drop_at hx, mdO_cons] at hdz
      have HX := Lib.hid hx
      clear hx HZ
      by_cases e1 : x.txn = t
      · subst e1
        by_cases e2 : x.res = s
        · subst e2
          rw [if_pos ⟨rfl, rfl⟩] at hdz
          subst hdz
          have HF := Lib.hid (show P (.returned (.int .i64 x.mode)) wr by rw [← HP.out]; exact ⟨rfl, rfl⟩)
          go_wp2_with fail
          exact HF.out
        · rw [if_neg (fun c => e2 c.2)] at hdz
          have HD := Lib.hid hdz
          have hs := ba_ne e2
          have hbe : (x.res == s) = false := by simp [e2]
          clear hdz
          go_wp2_with fail
          go_roundw
          case rel => exact ⟨j + 1, by omega, by first | rfl | go_num, (by first | rfl | exact trivial), HD⟩
          case measure => simp [intOf]; omega
      · rw [if_neg (fun c => e1 c.1)] at hdz
        have HD := Lib.hid hdz
        have hte : (x.txn == t) = false := by simp [e1]
        clear hdz
        go_wp2_with fail
        go_roundw
        case rel => exact ⟨j + 1, by omega, by first | rfl | go_num, (by first | rfl | exact trivial), HD⟩
        case measure => simp [intOf]; omega
    · obtain rfl : j = n := by omega
      have cf : decide ((j : Int) < (j : Int)) = false := by simp
      have HF := Lib.hid (show P (.returned (.int .i64 0)) wr by
        have hz := HZ.out
        rw [List.drop_eq_nil_of_le (Nat.le_of_eq HN.out), mdO_nil] at hz
        rw [← HP.out, ← hz]; exact ⟨rfl, rfl⟩)
      go_wp2_with fail
      exact HF.out
set_option maxHeartbeats 1000000 in
theorem ahead_any (w : World) (x y : Lv) :
    Calls Tryz.prog 54 #[encL x, encL y] w fun e w' => e = .returned (.bool (decide (ahd ordT x y))) ∧ Below w.heap.size w w' := by
  unfold encL
  generalize hP : (fun (e : Ending) (w' : World) => e = .returned (.bool (decide (ahd ordT x y))) ∧ Below w.heap.size w w') = P
  obtain ⟨W1, hW1⟩ : ∃ W1, w.alloc (.cells #[.int .i64 x.txn, .string ⟨x.res.toArray⟩, .int .i64 x.mode] 42) = W1 := ⟨_, rfl⟩
  obtain ⟨W2, hW2⟩ : ∃ W2, W1.alloc (.cells #[.int .i64 y.txn, .string ⟨y.res.toArray⟩, .int .i64 y.mode] 42) = W2 := ⟨_, rfl⟩
  have hb1 : Below w.heap.size w W1 := by rw [← hW1]; exact (Below.refl _ _).alloc (Nat.le_refl _) _
  have hb2 : Below W1.heap.size W1 W2 := by rw [← hW2]; exact (Below.refl _ _).alloc (Nat.le_refl _) _
  have hx1 : W1.heap[w.heap.size]? = some (.cells #[.int .i64 x.txn, .string ⟨x.res.toArray⟩, .int .i64 x.mode] 42 (0, 0)) := by rw [← hW1]; exact heap_alloc_new w _
  have hx2 := (hb2.block _ (Array.getElem?_eq_some_iff.1 hx1).1).trans hx1
  have hy2 : W2.heap[W1.heap.size]? = some (.cells #[.int .i64 y.txn, .string ⟨y.res.toArray⟩, .int .i64 y.mode] 42 (0, 0)) := by rw [← hW2]; exact heap_alloc_new W1 _
  have a0 : W2.cell? ⟨w.heap.size, 0, none⟩ = some (.int .i64 x.txn) := by rw [cell_of_block hx2]; rfl
  have a1 : W2.cell? ⟨w.heap.size, 1, none⟩ = some (.string ⟨x.res.toArray⟩) := by rw [cell_of_block hx2]; rfl
  have b0 : W2.cell? ⟨W1.heap.size, 0, none⟩ = some (.int .i64 y.txn) := by rw [cell_of_block hy2]; rfl
  have b1 : W2.cell? ⟨W1.heap.size, 1, none⟩ = some (.string ⟨y.res.toArray⟩) := by rw [cell_of_block hy2]; rfl
  have HB := Lib.hid (hb1.trans (hb2.mono hb1.size))
  have hs1 : W1.heap.size = w.heap.size + 1 := by rw [← hW1]; simp
  have HS1 := Lib.hid hs1
  by_cases e : x.res = y.res
  · have hd : decide (ahd ordT x y) = decide (x.txn < y.txn) := by
      rw [decide_eq_decide]
      unfold ahd
      rw [e]
      simp [ordT, u8_irr]
    have HF := Lib.hid (show P (.returned (.bool (decide (x.txn < y.txn)))) W2 by rw [← hP]; exact ⟨by rw [hd], HB.out⟩)
    rw [e] at a1
    clear hP hb1 hb2 hx1 hx2 hy2 hd hs1 e
    go_enter Tryz.func54, Tryz.ntmps54
    go_upto_region 1 with fail
    try rw [hW1]
    try rw [hW2]
    go_wp2_with fail
    first | exact HF.out | simpa using HF.out
  · have hd : decide (ahd ordT x y) = decide (x.res < y.res) := by
      rw [decide_eq_decide]
      unfold ahd
      simp [ordT, e]
    have HF := Lib.hid (show P (.returned (.bool (Op.bytesLess x.res y.res))) W2 by rw [← hP]; exact ⟨by rw [hd, bl_eq], HB.out⟩)
    have hs := ba_ne e
    have hbe : (x.res == y.res) = false := by simp [e]
    clear hP hb1 hb2 hx1 hx2 hy2 hd hs1
    go_enter Tryz.func54, Tryz.ntmps54
    go_upto_region 1 with fail
    try rw [hW1]
    try rw [hW2]
    go_wp2_with fail
    first | exact HF.out | simpa using HF.out

end Go.Proofs.YtelfinhpjokmdaaGreatDoor

namespace Go.Proofs.YtelfinhpjokmdaaGreatDoor
set_option maxRecDepth 100000
open Go.RowKit Go.Joins Go.ChangeShapes Go.WideShapes
open Go.MapKept
set_option linter.unusedVariables false
set_option linter.unnecessarySimpa false
set_option linter.unusedSimpArgs false

/-- a lock in a box of its own -/
structure BxL (w : World) (p : Nat) (x : Lv) : Prop where
  hd : w.heap[p]? = some (.cells #[.int .i64 x.txn, .string ⟨x.res.toArray⟩, .int .i64 x.mode] 42 (0, 0))
theorem bxL_new (w : World) (x : Lv) : BxL (w.alloc (.cells #[.int .i64 x.txn, .string ⟨x.res.toArray⟩, .int .i64 x.mode] 42)) w.heap.size x := ⟨heap_alloc_new w _⟩
theorem BxL.lt {w : World} {p : Nat} {x : Lv} (h : BxL w p x) : p < w.heap.size := (Array.getElem?_eq_some_iff.1 h.hd).1
theorem BxL.cells {w : World} {p : Nat} {x : Lv} (h : BxL w p x) : w.cell? ⟨p, 0, none⟩ = some (.int .i64 x.txn) ∧ w.cell? ⟨p, 1, none⟩ = some (.string ⟨x.res.toArray⟩) ∧ w.cell? ⟨p, 2, none⟩ = some (.int .i64 x.mode) :=
  ⟨by rw [cell_of_block h.hd]; rfl, by rw [cell_of_block h.hd]; rfl, by rw [cell_of_block h.hd]; rfl⟩
theorem BxL.step {w w' : World} {p : Nat} {x : Lv} {F : Bl} (h : BxL w p x) (hf : Frm F w w') (hp : ¬ F p) : BxL w' p x := ⟨(hf.heap h.lt hp).trans h.hd⟩
theorem BxL.below {w w' : World} {p : Nat} {x : Lv} (h : BxL w p x) (hb : Below w.heap.size w w') : BxL w' p x := ⟨(hb.block _ h.lt).trans h.hd⟩
/-- a list of the call's own, all behind W -/
structure EnR {P : Program} {α : Type} (K : RK P α) (W wx : World) (u : Value) (L : List α) : Prop where
  own : OwR K wx W.heap.size u L
  bel : Below W.heap.size W wx
theorem EnR.below {P : Program} {α : Type} {K : RK P α} {w wx wy : World} {u : Value} {L : List α} (h : EnR K w wx u L) (hb : Below wx.heap.size wx wy) : EnR K w wy u L := ⟨h.own.below hb, h.bel.trans (hb.mono h.bel.size)⟩
theorem EnR.push {P : Program} {α : Type} {K : RK P α} {w wx wy : World} {u u' : Value} {L L' : List α} (h : EnR K w wx u L) (ho : OwR K wy w.heap.size u' L') (hg : wx.grownBy wy u.ownBlock) : EnR K w wy u' L' :=
  ⟨ho, h.bel.grown hg h.bel.size (fun k hk => (h.own.lt hk).1)⟩
/-- one more element, as it lies in a box that was just made -/
theorem one_new {P : Program} {α : Type} (K : RK P α) (w : World) (x : α) (cs : Array Value) (hcs : cs.toList = K.enc x) : ∀ j u, (K.cells [x])[j]? = some u → (w.alloc (.cells cs K.te)).cell? ((⟨w.heap.size, 0, none⟩ : Addr).add j) = some u := by
  have := OwR.made_cells (K := K) w [x]
  rw [K.cells_one, ← hcs] at this
  rw [K.cells_one, ← hcs]
  simpa using this
variable {w : World} {B b : Nat} {vh vw : Value} {H : List Lv} {W : List Wv}
def okC (l h : Lv) : Bool := !(decide (h.res = l.res) && !decide (h.txn = l.txn) && !tgI h.mode l.mode)
theorem can_okC (H : List Lv) (l : Lv) : can mds H l = H.all (okC l) := rfl
theorem all_snoc {α : Type} {p : α → Bool} {l : List α} {j : Nat} {x : α} (h : l[j]? = some x) (h1 : (l.take j).all p = true) (h2 : p x = true) : (l.take (j + 1)).all p = true := by
  rw [List.take_add_one, h]
  simp [List.all_append, h1, h2]
theorem all_no {α : Type} {p : α → Bool} {l : List α} {j : Nat} {x : α} (h : l[j]? = some x) (h2 : p x = false) : l.all p = false := by
  cases c : l.all p with
  | false => rfl
  | true => have := (List.all_eq_true.1 c) x (List.mem_of_getElem? h); rw [h2] at this; cases this
set_option maxHeartbeats 4000000 in
theorem rcan_any (h : RfM w B b vh vw H W) (l : Lv) :
    Calls Tryz.prog 27 #[.pointer (some ⟨b, 0, none⟩), encL l] w fun e w' => e = .returned (.bool (can mds H l)) ∧ Below w.heap.size w w' := by
  unfold encL
  obtain ⟨ga, gc, hge, hgc, hgm⟩ := h.oh.sl
  obtain ⟨n, hn⟩ : ∃ n, H.length = n := ⟨_, rfl⟩
  rw [hn] at hge hgc
  subst hge
  unfold maxLen at hgm
  have hn9 : n ≤ 9223372036854775807 := by omega
  have HN := Lib.hid hn
  obtain ⟨z, hz⟩ : ∃ z, can mds H l = z := ⟨_, rfl⟩
  rw [hz]
  have HZ := Lib.hid hz
  generalize hP : (fun (e : Ending) (w' : World) => e = .returned (.bool z) ∧ Below w.heap.size w w') = P
  have HP := Lib.hid hP
  obtain ⟨W1, hW1⟩ : ∃ W1, w.alloc (.cells #[.int .i64 l.txn, .string ⟨l.res.toArray⟩, .int .i64 l.mode] 42) = W1 := ⟨_, rfl⟩
  have hb1 : Below w.heap.size w W1 := by rw [← hW1]; exact (Below.refl _ _).alloc (Nat.le_refl _) _
  obtain ⟨p, hp⟩ : ∃ p, w.heap.size = p := ⟨_, rfl⟩
  have HX := Lib.hid (show BxL W1 p l by rw [← hW1, ← hp]; exact bxL_new w l)
  have HM := Lib.hid (h.below hb1)
  have HB1 := Lib.hid hb1
  clear h hn hgc hgm hz hP hb1
  go_enter Tryz.func27, Tryz.ntmps27
  go_upto_region 1 with fail
  try rw [hW1]
  try rw [hp]
  clear hW1
  go_wp2_with fail
  go_loopw [5] (fun i wx => ∃ j : Nat, j ≤ n ∧ i = .int .i64 j ∧ Hid (Below W1.heap.size W1 wx) ∧ Hid ((H.take j).all (okC l) = true)) (fun i _ => n - (intOf i).toNat)
  case atStart => exact ⟨0, Nat.zero_le _, rfl, Lib.hid (Below.refl _ _), Lib.hid rfl⟩
  case round =>
    obtain ⟨j, hj, rfl, HB, HA⟩ := hrel
    have hM := HM.out.below HB.out
    obtain ⟨c0, -, -⟩ := hM.cells
    by_cases cj : j < n
    · have cj1 : (j : Int) < (n : Int) := by omega
      obtain ⟨x, hx⟩ : ∃ x, H[j]? = some x := ⟨_, List.getElem?_eq_getElem (by rw [HN.out]; exact cj)⟩
      obtain ⟨g, rfl, -, -, -⟩ := hM.oh.blk (i := j) (by rw [HN.out]; exact cj)
      obtain ⟨x0, x1, x2, -⟩ := kl_at hM.oh hx
      obtain ⟨W2, hW2⟩ : ∃ W2, wr.alloc (.cells #[.int .i64 x.txn, .string ⟨x.res.toArray⟩, .int .i64 x.mode] 42) = W2 := ⟨_, rfl⟩
      have hb2 : Below wr.heap.size wr W2 := by rw [← hW2]; exact (Below.refl _ _).alloc (Nat.le_refl _) _
      obtain ⟨q0, q1, q2⟩ := (show BxL W2 wr.heap.size x by rw [← hW2]; exact bxL_new wr x).cells
      obtain ⟨p0, p1, p2⟩ := ((HX.out.below HB.out).below hb2).cells
      have HB2 := Lib.hid (HB.out.trans (hb2.mono HB.out.size))
      have hjw : IntKind.i64.wrap ((j : Int) + 1) = ((j + 1 : Nat) : Int) := by rw [IntWalk.i64_in _ (by omega)]; omega
      have HXX := Lib.hid hx
      clear hx hb2 hM
      go_upto_region 5 with fail
      try rw [hW2]
      clear hW2 c0 x0 x1 x2
      by_cases e1 : x.res = l.res
      · rw [e1] at q1
        by_cases e2 : x.txn = l.txn
        · have HA2 := Lib.hid (all_snoc HXX.out HA.out (show okC l x = true by simp [okC, e2]))
          have e2b : (x.txn == l.txn) = true := by simp [e2]
          clear e1
          go_wp2_with fail
          go_roundw
          case rel => exact ⟨j + 1, by omega, by first | rfl | go_num, HB2, HA2⟩
          case measure => simp [intOf]; omega
        · have e2b : (x.txn == l.txn) = false := by simp [e2]
          have HT := Lib.hid (rtog_any x.mode l.mode W2)
          obtain ⟨tg, htg⟩ : ∃ tg, tgI x.mode l.mode = tg := ⟨_, rfl⟩
          rw [htg] at HT
          have HTG := Lib.hid htg
          have HE1 := Lib.hid e1
          clear htg e1
          go_wp2_with fail
          refine HT.out.mono ?_
          rintro e w3 ⟨rfl, hb3⟩
          have HB3 := Lib.hid (HB2.out.trans (hb3.mono HB2.out.size))
          clear hb3 HT
          cases tg with
          | true =>
            have HA2 := Lib.hid (all_snoc HXX.out HA.out (show okC l x = true by simp [okC, HTG.out]))
            go_wp2_with fail
            go_roundw
            case rel => exact ⟨j + 1, by omega, by first | rfl | go_num, HB3, HA2⟩
            case measure => simp [intOf]; omega
          | false =>
            have HF := Lib.hid (show P (.returned (.bool false)) w3 by
              rw [← HP.out]
              have : can mds H l = false := by rw [can_okC]; exact all_no HXX.out (by simp [okC, HTG.out, HE1.out, e2])
              rw [← HZ.out, this]
              exact ⟨rfl, HB1.out.trans (HB3.out.mono HB1.out.size)⟩)
            go_wp2_with fail
            first | exact HF.out | simpa using HF.out
      · have hs := ba_ne e1
        have hbe : (x.res == l.res) = false := by simp [e1]
        have HA2 := Lib.hid (all_snoc HXX.out HA.out (show okC l x = true by simp [okC, e1]))
        clear e1
        go_wp2_with fail
        go_roundw
        case rel => exact ⟨j + 1, by omega, by first | rfl | go_num, HB2, HA2⟩
        case measure => simp [intOf]; omega
    · obtain rfl : j = n := by omega
      have cf : decide ((j : Int) < (j : Int)) = false := by simp
      have HF := Lib.hid (show P (.returned (.bool true)) wr by
        rw [← HP.out]
        have ha := HA.out
        rw [List.take_of_length_le (Nat.le_of_eq HN.out)] at ha
        rw [← HZ.out, can_okC, ha]
        exact ⟨rfl, HB1.out.trans (HB.out.mono HB1.out.size)⟩)
      clear hM
      go_wp2_with fail
      first | exact HF.out | simpa using HF.out
/-- a lock set over another in a box -/
theorem bxl_set3 (W1 : World) (p : Nat) (x y : Lv) (hp : BxL W1 p x) : BxL (((W1.setCell ⟨p, 0, none⟩ (.int .i64 y.txn)).setCell ⟨p, 1, none⟩ (.string ⟨y.res.toArray⟩)).setCell ⟨p, 2, none⟩ (.int .i64 y.mode)) p y ∧
    Frm (fun k => k = p) W1 (((W1.setCell ⟨p, 0, none⟩ (.int .i64 y.txn)).setCell ⟨p, 1, none⟩ (.string ⟨y.res.toArray⟩)).setCell ⟨p, 2, none⟩ (.int .i64 y.mode)) := by
  refine ⟨⟨?_⟩, ?_⟩
  · rw [setCell_eq_setRow W1 _ 0 _ _ _ _ hp.hd]
    have g1 := setRow_heap W1 p _ ((#[.int .i64 x.txn, .string ⟨x.res.toArray⟩, .int .i64 x.mode] : Array Value).setIfInBounds 0 (.int .i64 y.txn)) _ _ hp.hd
    rw [setCell_eq_setRow _ _ 1 _ _ _ _ g1]
    have g2 := setRow_heap _ p _ (((#[.int .i64 x.txn, .string ⟨x.res.toArray⟩, .int .i64 x.mode] : Array Value).setIfInBounds 0 (.int .i64 y.txn)).setIfInBounds 1 (.string ⟨y.res.toArray⟩)) _ _ g1
    rw [setCell_eq_setRow _ _ 2 _ _ _ _ g2, setRow_heap _ _ _ _ _ _ g2]
    rfl
  · exact ((Frm.set1 (F := fun k => k = p) W1 rfl _ _).trans (Frm.set1 (F := fun k => k = p) _ rfl _ _) (New.refl _ _)).trans (Frm.set1 (F := fun k => k = p) _ rfl _ _) (New.refl _ _)
theorem wsh_cons (x : Wv) (r : List Wv) (t : Int) : wsh (x :: r) t = if x.l.txn = t then some x.l else wsh r t := by
  unfold wsh
  rw [List.find?_cons]
  by_cases c : x.l.txn = t
  · simp [c]
  · simp [c]
set_option maxHeartbeats 4000000 in
theorem rwish_any (h : RfM w B b vh vw H W) (t : Int) :
    Calls Tryz.prog 23 #[.pointer (some ⟨b, 0, none⟩), .int .i64 t] w fun e w' => e = .returned (.tuple #[encL ((wsh W t).getD zL), .bool (wsh W t).isSome]) ∧ Below w.heap.size w w' := by
  obtain ⟨ga, gc, hge, hgc, hgm⟩ := h.ow.sl
  obtain ⟨n, hn⟩ : ∃ n, W.length = n := ⟨_, rfl⟩
  rw [hn] at hge hgc
  subst hge
  unfold maxLen at hgm
  have hn9 : n ≤ 9223372036854775807 := by omega
  have HN := Lib.hid hn
  obtain ⟨z, hz⟩ : ∃ z, wsh W t = z := ⟨_, rfl⟩
  rw [hz]
  have HZ := Lib.hid (show wsh (W.drop 0) t = z from hz)
  obtain ⟨W0, hW0⟩ : ∃ W0, w.alloc (.cells #[.int .i64 0, .string ⟨#[]⟩, .int .i64 0] 42) = W0 := ⟨_, rfl⟩
  have hb0 : Below w.heap.size w W0 := by rw [← hW0]; exact (Below.refl _ _).alloc (Nat.le_refl _) _
  obtain ⟨p, hp⟩ : ∃ p, w.heap.size = p := ⟨_, rfl⟩
  have hbx : BxL W0 p zL := by rw [← hW0, ← hp]; exact bxL_new w zL
  have HX := Lib.hid hbx
  have HM := Lib.hid (h.below hb0)
  obtain ⟨-, c1, -⟩ := HM.out.cells
  obtain ⟨k0, k1, k2⟩ := hbx.cells
  replace k0 : W0.cell? ⟨p, 0, none⟩ = some (.int .i64 0) := k0
  replace k1 : W0.cell? ⟨p, 1, none⟩ = some (.string ⟨#[]⟩) := k1
  replace k2 : W0.cell? ⟨p, 2, none⟩ = some (.int .i64 0) := k2
  have z0 := unfrozen_of_block hbx.hd 0
  have z1 := unfrozen_of_block hbx.hd 1
  have z2 := unfrozen_of_block hbx.hd 2
  have HB0 := Lib.hid hb0
  have HSET := Lib.hid (fun (y : Lv) => show (((W0.setCell ⟨p, 0, none⟩ (.int .i64 y.txn)).setCell ⟨p, 1, none⟩ (.string ⟨y.res.toArray⟩)).setCell ⟨p, 2, none⟩ (.int .i64 y.mode)).cell? ⟨p, 0, none⟩ = some (.int .i64 y.txn) ∧
      (((W0.setCell ⟨p, 0, none⟩ (.int .i64 y.txn)).setCell ⟨p, 1, none⟩ (.string ⟨y.res.toArray⟩)).setCell ⟨p, 2, none⟩ (.int .i64 y.mode)).cell? ⟨p, 1, none⟩ = some (.string ⟨y.res.toArray⟩) ∧
      (((W0.setCell ⟨p, 0, none⟩ (.int .i64 y.txn)).setCell ⟨p, 1, none⟩ (.string ⟨y.res.toArray⟩)).setCell ⟨p, 2, none⟩ (.int .i64 y.mode)).cell? ⟨p, 2, none⟩ = some (.int .i64 y.mode) ∧
      Below w.heap.size w (((W0.setCell ⟨p, 0, none⟩ (.int .i64 y.txn)).setCell ⟨p, 1, none⟩ (.string ⟨y.res.toArray⟩)).setCell ⟨p, 2, none⟩ (.int .i64 y.mode)) by
    obtain ⟨a, f⟩ := bxl_set3 W0 p zL y HX.out
    obtain ⟨a0, a1, a2⟩ := a.cells
    exact ⟨a0, a1, a2, ((Frm.of_below (F := fun k => k = p) HB0.out).trans f (New.refl _ _)).below (fun k hk => by rw [hk, hp]; exact Nat.le_refl _) (Nat.le_refl _)⟩)
  clear h hn hgc hgm hz hb0 hbx
  go_enter Tryz.func23, Tryz.ntmps23
  go_upto_region 1 with fail
  try rw [hW0]
  try rw [hp]
  clear hW0
  go_wp2_with fail
  go_loopw [6] (fun i wx => ∃ j : Nat, j ≤ n ∧ i = .int .i64 j ∧ wx = W0 ∧ Hid (wsh (W.drop j) t = z)) (fun i _ => n - (intOf i).toNat)
  case atStart => exact ⟨0, Nat.zero_le _, rfl, rfl, HZ⟩
  case round =>
    clear HZ
    obtain ⟨j, hj, rfl, rfl, HZ⟩ := hrel
    by_cases cj : j < n
    · have cj1 : (j : Int) < (n : Int) := by omega
      obtain ⟨x, hx⟩ : ∃ x, W[j]? = some x := ⟨_, List.getElem?_eq_getElem (by rw [HN.out]; exact cj)⟩
      obtain ⟨g, rfl, -, -, -⟩ := HM.out.ow.blk (i := j) (by rw [HN.out]; exact cj)
      obtain ⟨x0, x1, x2, x3, -⟩ := kw_at HM.out.ow hx
      have hjw : IntKind.i64.wrap ((j : Int) + 1) = ((j + 1 : Nat) : Int) := by rw [IntWalk.i64_in _ (by omega)]; omega
      have hdz := HZ.out
      rw [drop_at hx, wsh_cons] at hdz
      clear hx HZ
      by_cases e1 : x.l.txn = t
      · rw [if_pos e1] at hdz
        subst hdz
        subst e1
        obtain ⟨q0, q1, q2, hb⟩ := HSET.out x.l
        obtain ⟨W4, hW4⟩ : ∃ W4, ((wr.setCell ⟨p, 0, none⟩ (.int .i64 x.l.txn)).setCell ⟨p, 1, none⟩ (.string ⟨x.l.res.toArray⟩)).setCell ⟨p, 2, none⟩ (.int .i64 x.l.mode) = W4 := ⟨_, rfl⟩
        rw [hW4] at q0 q1 q2 hb
        have HB := Lib.hid hb
        clear hb
        go_wp2_with fail
        try rw [hW4]
        refine bodyPost_ret (v := .tuple #[.agg #[.int .i64 x.l.txn, .string ⟨x.l.res.toArray⟩, .int .i64 x.l.mode], .bool true]) (by simp [results, Tryz.results23, go_sem, q0, q1, q2]) rfl ⟨rfl, HB.out⟩
      · rw [if_neg e1] at hdz
        have HD := Lib.hid hdz
        have e1b : (x.l.txn == t) = false := by simp [e1]
        clear hdz
        go_wp2_with fail
        go_roundw
        case rel => exact ⟨j + 1, by omega, by first | rfl | go_num, (by first | rfl | exact trivial), HD⟩
        case measure => simp [intOf]; omega
    · obtain rfl : j = n := by omega
      have cf : decide ((j : Int) < (j : Int)) = false := by simp
      have hz := HZ.out
      rw [List.drop_eq_nil_of_le (Nat.le_of_eq HN.out)] at hz
      have hz2 : z = none := hz.symm.trans rfl
      subst hz2
      obtain ⟨q0, q1, q2, hb⟩ := HSET.out zL
      obtain ⟨W4, hW4⟩ : ∃ W4, ((wr.setCell ⟨p, 0, none⟩ (.int .i64 0)).setCell ⟨p, 1, none⟩ (.string ⟨#[]⟩)).setCell ⟨p, 2, none⟩ (.int .i64 0) = W4 := ⟨_, rfl⟩
      replace q0 : W4.cell? ⟨p, 0, none⟩ = some (.int .i64 0) := by rw [← hW4]; exact q0
      replace q1 : W4.cell? ⟨p, 1, none⟩ = some (.string ⟨#[]⟩) := by rw [← hW4]; exact q1
      replace q2 : W4.cell? ⟨p, 2, none⟩ = some (.int .i64 0) := by rw [← hW4]; exact q2
      have HB := Lib.hid (show Below w.heap.size w W4 by rw [← hW4]; exact hb)
      clear hb hz
      go_wp2_with fail
      try rw [hW4]
      refine bodyPost_ret (v := .tuple #[.agg #[.int .i64 0, .string ⟨#[]⟩, .int .i64 0], .bool false]) (by simp [results, Tryz.results23, go_sem, q0, q1, q2]) rfl ⟨rfl, HB.out⟩

end Go.Proofs.YtelfinhpjokmdaaGreatDoor

namespace Go.Proofs.YtelfinhpjokmdaaGreatDoor
set_option maxRecDepth 100000
open Go.RowKit Go.Joins Go.ChangeShapes Go.WideShapes
open Go.MapKept
set_option linter.unusedVariables false
set_option linter.unnecessarySimpa false
set_option linter.unusedSimpArgs false

/-- the wishes for a thing that change it, or don't -/
def qpart (c : Bool) (W : List Wv) (s : RS) : List Lv := (W.filter fun w => decide (w.l.res = s) && (w.ch == c)).map fun w => w.l
theorem que_part (W : List Wv) (s : RS) : que W s = qpart true W s ++ qpart false W s := by
  unfold que qpart
  rw [List.map_append, List.filter_filter, List.filter_filter]
  congr 2
  · congr 1; funext w; cases w.ch <;> simp
  · congr 1; funext w; cases w.ch <;> simp
theorem qpart_yes {c : Bool} {W : List Wv} {s : RS} {j : Nat} {x : Wv} (hx : W[j]? = some x) (h1 : x.l.res = s) (h2 : x.ch = c) : qpart c (W.take (j + 1)) s = qpart c (W.take j) s ++ [x.l] := by
  unfold qpart
  rw [List.take_add_one, hx, List.filter_append, List.map_append]
  simp [h1, h2]
theorem qpart_no {c : Bool} {W : List Wv} {s : RS} {j : Nat} {x : Wv} (hx : W[j]? = some x) (h : ¬ (x.l.res = s ∧ x.ch = c)) : qpart c (W.take (j + 1)) s = qpart c (W.take j) s := by
  unfold qpart
  rw [List.take_add_one, hx, List.filter_append, List.map_append]
  by_cases h1 : x.l.res = s
  · have h2 : ¬ x.ch = c := fun e => h ⟨h1, e⟩
    simp [h1, h2]
  · simp [h1]
theorem qpart_len (c : Bool) (W : List Wv) (s : RS) : (qpart c W s).length ≤ W.length := by unfold qpart; rw [List.length_map]; exact List.length_filter_le _ _
theorem fgt_yes {W : List Wv} {t : Int} {j : Nat} {x : Wv} (hx : W[j]? = some x) (h : x.l.txn ≠ t) : fgt (W.take (j + 1)) t = fgt (W.take j) t ++ [x] := by
  unfold fgt
  rw [List.take_add_one, hx, List.filter_append]
  simp [h]
theorem fgt_no {W : List Wv} {t : Int} {j : Nat} {x : Wv} (hx : W[j]? = some x) (h : x.l.txn = t) : fgt (W.take (j + 1)) t = fgt (W.take j) t := by
  unfold fgt
  rw [List.take_add_one, hx, List.filter_append]
  simp [h]
theorem fgt_len (W : List Wv) (t : Int) : (fgt W t).length ≤ W.length := by unfold fgt; exact List.length_filter_le _ _
variable {w : World} {B b : Nat} {vh vw : Value} {H : List Lv} {W : List Wv}
set_option maxHeartbeats 8000000 in
theorem rqueue_any (h : RfM w B b vh vw H W) (hN : W.length ≤ 2000000) (s : RS) :
    Calls Tryz.prog 28 #[.pointer (some ⟨b, 0, none⟩), .string ⟨s.toArray⟩] w fun e w' => ∃ v, e = .returned v ∧ OwR KL w' w.heap.size v (que W s) ∧ Below w.heap.size w w' := by
  obtain ⟨ga, gc, hge, hgc, hgm⟩ := h.ow.sl
  obtain ⟨n, hn⟩ : ∃ n, W.length = n := ⟨_, rfl⟩
  rw [hn] at hge hgc hN
  subst hge
  have HN := Lib.hid hn
  generalize hP : (fun (e : Ending) (w' : World) => ∃ v, e = .returned v ∧ OwR KL w' w.heap.size v (que W s) ∧ Below w.heap.size w w') = P
  have HP := Lib.hid hP
  have HM := Lib.hid h
  have HE := Lib.hid (show EnR KL w (w.alloc (.cells #[] 42)) (.slice (some ⟨w.heap.size, 0, none⟩) 0 0) ([] ++ qpart true (W.take 0) s) from ⟨OwR.made (K := KL) w (Nat.le_refl _) [] (by decide), (Below.refl _ _).alloc (Nat.le_refl _) _⟩)
  clear h hn hgc hgm hP
  go_enter Tryz.func28, Tryz.ntmps28
  go_wp2_with fail
  go_loopw [5, 6] (fun v5 i wx => ∃ q : Nat, q ≤ 2 ∧ i = .int .i64 q ∧ Hid (EnR KL w wx v5 (if q = 0 then [] else if q = 1 then qpart true W s else que W s))) (fun _ i _ => 2 - (intOf i).toNat)
  case atStart => exact ⟨0, by omega, rfl, HE⟩
  case round =>
    clear HE
    obtain ⟨q, hq, rfl, HE⟩ := hrel
    obtain rfl | rfl | rfl : q = 0 ∨ q = 1 ∨ q = 2 := by omega
    · rw [show (((0 : Nat) : Int)) = 0 from rfl]
      have HE0 := Lib.hid (show EnR KL w wr u5 (([] : List Lv) ++ qpart true (W.take 0) s) by
        have := HE.out
        simpa [qpart] using this)
      clear HE
      go_wp2_with fail
      go_loopw [5, 7] (fun v5 i wx => ∃ j : Nat, j ≤ n ∧ i = .int .i64 j ∧ Hid (EnR KL w wx v5 (([] : List Lv) ++ qpart true (W.take j) s))) (fun _ i _ => n - (intOf i).toNat)
      case atStart => exact ⟨0, Nat.zero_le _, rfl, HE0⟩
      case round =>
        clear HE0
        obtain ⟨j, hj, rfl, HE⟩ := hrel
        have hM := HM.out.below HE.out.bel
        obtain ⟨-, c1, -⟩ := hM.cells
        by_cases cj : j < n
        · have cj1 : (j : Int) < (n : Int) := by omega
          obtain ⟨x, hx⟩ : ∃ x, W[j]? = some x := ⟨_, List.getElem?_eq_getElem (by rw [HN.out]; exact cj)⟩
          obtain ⟨g, rfl, -, -, -⟩ := hM.ow.blk (i := j) (by rw [HN.out]; exact cj)
          obtain ⟨x0, x1, x2, x3, -⟩ := kw_at hM.ow hx
          have hjw : IntKind.i64.wrap ((j : Int) + 1) = ((j + 1 : Nat) : Int) := by rw [IntWalk.i64_in _ (by omega)]; omega
          have HXX := Lib.hid hx
          clear hx hM
          by_cases e1 : x.l.res = s
          · subst e1
            cases hch : x.ch with
            | true =>
              rw [hch] at x3
              have HO := Lib.hid (qpart_yes HXX.out rfl hch)
              have hbC : Below wr.heap.size wr (wr.alloc (.cells #[.int .i64 x.l.txn, .string ⟨x.l.res.toArray⟩, .int .i64 x.l.mode] 42)) := (Below.refl _ _).alloc (Nat.le_refl _) _
              have HEC := Lib.hid (HE.out.below hbC)
              have HNW := Lib.hid (one_new KL wr x.l #[.int .i64 x.l.txn, .string ⟨x.l.res.toArray⟩, .int .i64 x.l.mode] rfl)
              have HSZ := Lib.hid HEC.out.bel.size
              have HLN := Lib.hid (show (([] : List Lv) ++ qpart true (W.take j) x.l.res).length + 1 ≤ 4294967297 by
                have h1 := qpart_len true (W.take j) x.l.res
                have h2 : (W.take j).length ≤ j := by rw [List.length_take]; omega
                have h3 := qpart_len true W x.l.res
                rw [HN.out] at h3
                rw [List.length_append]
                try simp only [List.length_nil]
                omega)
              clear hbC hch
              go_wp2_with (first | (at_builtin; refine OwR.wp (K := KL) rfl _ _ rfl w.heap.size u5 _ rfl HEC.out.own HSZ.out ⟨_, 0, none⟩ 1 _ [x.l] rfl rfl HNW.out HLN.out ?_; intro v' w6 q6 g6 n6; have HK6 := Lib.hid (HEC.out.push q6 g6); clear q6 g6 n6))
              rw [List.append_assoc, ← HO.out] at HK6
              go_roundw
              case rel => exact ⟨j + 1, by omega, by first | rfl | go_num, HK6⟩
              case measure => simp [intOf]; omega
            | false =>
              rw [hch] at x3
              have HO := qpart_no (c := true) (s := x.l.res) HXX.out (by rw [hch]; simp)
              rw [← HO] at HE
              clear hch HO
              go_wp2_with fail
              go_roundw
              case rel => exact ⟨j + 1, by omega, by first | rfl | go_num, HE⟩
              case measure => simp [intOf]; omega
          · have HO := qpart_no (c := true) HXX.out (fun h => e1 h.1)
            rw [← HO] at HE
            have hs := ba_ne e1
            have hbe : (x.l.res == s) = false := by simp [e1]
            clear HO
            go_wp2_with fail
            go_roundw
            case rel => exact ⟨j + 1, by omega, by first | rfl | go_num, HE⟩
            case measure => simp [intOf]; omega
        · obtain rfl : j = n := by omega
          have cf : decide ((j : Int) < (j : Int)) = false := by simp
          have HE2 := Lib.hid (show EnR KL w wr u5 (if 0 + 1 = 0 then [] else if 0 + 1 = 1 then qpart true W s else que W s) by
            have := HE.out
            rw [List.take_of_length_le (Nat.le_of_eq HN.out)] at this
            simpa [que_part] using this)
          clear HE hM
          go_wp2_with fail
          go_roundw
          case rel => exact ⟨0 + 1, by omega, by first | rfl | go_num, HE2⟩
          case measure => simp [intOf]
    · rw [show (((1 : Nat) : Int)) = 1 from rfl]
      have HE0 := Lib.hid (show EnR KL w wr u5 (qpart true W s ++ qpart false (W.take 0) s) by
        have := HE.out
        simpa [qpart] using this)
      clear HE
      go_wp2_with fail
      go_loopw [5, 7] (fun v5 i wx => ∃ j : Nat, j ≤ n ∧ i = .int .i64 j ∧ Hid (EnR KL w wx v5 (qpart true W s ++ qpart false (W.take j) s))) (fun _ i _ => n - (intOf i).toNat)
      case atStart => exact ⟨0, Nat.zero_le _, rfl, HE0⟩
      case round =>
        clear HE0
        obtain ⟨j, hj, rfl, HE⟩ := hrel
        have hM := HM.out.below HE.out.bel
        obtain ⟨-, c1, -⟩ := hM.cells
        by_cases cj : j < n
        · have cj1 : (j : Int) < (n : Int) := by omega
          obtain ⟨x, hx⟩ : ∃ x, W[j]? = some x := ⟨_, List.getElem?_eq_getElem (by rw [HN.out]; exact cj)⟩
          obtain ⟨g, rfl, -, -, -⟩ := hM.ow.blk (i := j) (by rw [HN.out]; exact cj)
          obtain ⟨x0, x1, x2, x3, -⟩ := kw_at hM.ow hx
          have hjw : IntKind.i64.wrap ((j : Int) + 1) = ((j + 1 : Nat) : Int) := by rw [IntWalk.i64_in _ (by omega)]; omega
          have HXX := Lib.hid hx
          clear hx hM
          by_cases e1 : x.l.res = s
          · subst e1
            cases hch : x.ch with
            | false =>
              rw [hch] at x3
              have HO := Lib.hid (qpart_yes HXX.out rfl hch)
              have hbC : Below wr.heap.size wr (wr.alloc (.cells #[.int .i64 x.l.txn, .string ⟨x.l.res.toArray⟩, .int .i64 x.l.mode] 42)) := (Below.refl _ _).alloc (Nat.le_refl _) _
              have HEC := Lib.hid (HE.out.below hbC)
              have HNW := Lib.hid (one_new KL wr x.l #[.int .i64 x.l.txn, .string ⟨x.l.res.toArray⟩, .int .i64 x.l.mode] rfl)
              have HSZ := Lib.hid HEC.out.bel.size
              have HLN := Lib.hid (show (qpart true W x.l.res ++ qpart false (W.take j) x.l.res).length + 1 ≤ 4294967297 by
                have h1 := qpart_len false (W.take j) x.l.res
                have h2 : (W.take j).length ≤ j := by rw [List.length_take]; omega
                have h3 := qpart_len true W x.l.res
                rw [HN.out] at h3
                rw [List.length_append]
                try simp only [List.length_nil]
                omega)
              clear hbC hch
              go_wp2_with (first | (at_builtin; refine OwR.wp (K := KL) rfl _ _ rfl w.heap.size u5 _ rfl HEC.out.own HSZ.out ⟨_, 0, none⟩ 1 _ [x.l] rfl rfl HNW.out HLN.out ?_; intro v' w6 q6 g6 n6; have HK6 := Lib.hid (HEC.out.push q6 g6); clear q6 g6 n6))
              rw [List.append_assoc, ← HO.out] at HK6
              go_roundw
              case rel => exact ⟨j + 1, by omega, by first | rfl | go_num, HK6⟩
              case measure => simp [intOf]; omega
            | true =>
              rw [hch] at x3
              have HO := qpart_no (c := false) (s := x.l.res) HXX.out (by rw [hch]; simp)
              rw [← HO] at HE
              clear hch HO
              go_wp2_with fail
              go_roundw
              case rel => exact ⟨j + 1, by omega, by first | rfl | go_num, HE⟩
              case measure => simp [intOf]; omega
          · have HO := qpart_no (c := false) HXX.out (fun h => e1 h.1)
            rw [← HO] at HE
            have hs := ba_ne e1
            have hbe : (x.l.res == s) = false := by simp [e1]
            clear HO
            go_wp2_with fail
            go_roundw
            case rel => exact ⟨j + 1, by omega, by first | rfl | go_num, HE⟩
            case measure => simp [intOf]; omega
        · obtain rfl : j = n := by omega
          have cf : decide ((j : Int) < (j : Int)) = false := by simp
          have HE2 := Lib.hid (show EnR KL w wr u5 (if 1 + 1 = 0 then [] else if 1 + 1 = 1 then qpart true W s else que W s) by
            have := HE.out
            rw [List.take_of_length_le (Nat.le_of_eq HN.out)] at this
            simpa [que_part] using this)
          clear HE hM
          go_wp2_with fail
          go_roundw
          case rel => exact ⟨1 + 1, by omega, by first | rfl | go_num, HE2⟩
          case measure => simp [intOf]
    · have HF := Lib.hid (show P (.returned u5) wr by
        rw [← HP.out]
        exact ⟨_, rfl, by simpa using HE.out.own, HE.out.bel⟩)
      rw [show (((2 : Nat) : Int)) = 2 from rfl]
      go_wp2_with fail
      first | exact HF.out | simpa using HF.out
set_option maxHeartbeats 8000000 in
theorem rforget_any (h : RfM w B b vh vw H W) (hN : W.length ≤ 2000000) (hB : B ≤ w.heap.size) (t : Int) :
    Calls Tryz.prog 35 #[.pointer (some ⟨b, 0, none⟩), .int .i64 t] w fun e w' => e = .returned (.tuple #[]) ∧ WentD w w' B b vh vw H (fgt W t) := by
  obtain ⟨ga, gc, hge, hgc, hgm⟩ := h.ow.sl
  obtain ⟨n, hn⟩ : ∃ n, W.length = n := ⟨_, rfl⟩
  rw [hn] at hge hgc hN
  subst hge
  have HN := Lib.hid hn
  have HM := Lib.hid h
  have HF := Lib.hid (fun (u : Value) (wx : World) (he : EnR KW w wx u (fgt W t)) => show WentD w (wx.setCell ⟨b, 1, none⟩ u) B b vh (.slice ga n gc) H (fgt W t) by
    have h1 := h.below he.bel
    refine ⟨vh, u, h1.setW (he.own.le hB), ((Frm.of_below (F := blkD b vh (.slice ga n gc)) he.bel).trans (Frm.set1 (F := blkD b vh (.slice ga n gc)) wx (.inl rfl) _ _) (New.refl _ _)), fun k hk => ?_⟩
    rcases hk with e | e | e
    · exact .inl (.inl e)
    · exact .inl (.inr (.inl e))
    · exact .inr (he.own.lt e).1)
  have HE := Lib.hid (show EnR KW w (w.alloc (.cells #[] 66)) (.slice (some ⟨w.heap.size, 0, none⟩) 0 0) (fgt (W.take 0) t) from ⟨OwR.made (K := KW) w (Nat.le_refl _) [] (by decide), (Below.refl _ _).alloc (Nat.le_refl _) _⟩)
  generalize hP : (fun (e : Ending) (w' : World) => e = .returned (.tuple #[]) ∧ WentD w w' B b vh (.slice ga n gc) H (fgt W t)) = P
  have HP := Lib.hid hP
  clear h hn hgc hgm hP
  go_enter Tryz.func35, Tryz.ntmps35
  go_wp2_with fail
  go_loopw [4, 5] (fun v5 i wx => ∃ j : Nat, j ≤ n ∧ i = .int .i64 j ∧ Hid (EnR KW w wx v5 (fgt (W.take j) t))) (fun _ i _ => n - (intOf i).toNat)
  case atStart => exact ⟨0, Nat.zero_le _, rfl, HE⟩
  case round =>
    clear HE
    obtain ⟨j, hj, rfl, HE⟩ := hrel
    have hM := HM.out.below HE.out.bel
    obtain ⟨-, c1, cf0⟩ := hM.cells
    by_cases cj : j < n
    · have cj1 : (j : Int) < (n : Int) := by omega
      obtain ⟨x, hx⟩ : ∃ x, W[j]? = some x := ⟨_, List.getElem?_eq_getElem (by rw [HN.out]; exact cj)⟩
      obtain ⟨g, rfl, -, -, -⟩ := hM.ow.blk (i := j) (by rw [HN.out]; exact cj)
      obtain ⟨x0, x1, x2, x3, -⟩ := kw_at hM.ow hx
      have hjw : IntKind.i64.wrap ((j : Int) + 1) = ((j + 1 : Nat) : Int) := by rw [IntWalk.i64_in _ (by omega)]; omega
      have HXX := Lib.hid hx
      clear hx hM cf0
      by_cases e1 : x.l.txn = t
      · have HO := fgt_no HXX.out e1
        rw [← HO] at HE
        have e1b : (x.l.txn == t) = true := by simp [e1]
        clear HO
        go_wp2_with fail
        go_roundw
        case rel => exact ⟨j + 1, by omega, by first | rfl | go_num, HE⟩
        case measure => simp [intOf]; omega
      · have HO := Lib.hid (fgt_yes HXX.out e1)
        have e1b : (x.l.txn == t) = false := by simp [e1]
        have hbC : Below wr.heap.size wr (wr.alloc (.cells #[.int .i64 x.l.txn, .string ⟨x.l.res.toArray⟩, .int .i64 x.l.mode, .bool x.ch] 66)) := (Below.refl _ _).alloc (Nat.le_refl _) _
        have HEC := Lib.hid (HE.out.below hbC)
        have HNW := Lib.hid (one_new KW wr x #[.int .i64 x.l.txn, .string ⟨x.l.res.toArray⟩, .int .i64 x.l.mode, .bool x.ch] rfl)
        have HSZ := Lib.hid HEC.out.bel.size
        have HLN := Lib.hid (show (fgt (W.take j) t).length + 1 ≤ 4294967297 by
          have h1 := fgt_len (W.take j) t
          have h2 : (W.take j).length ≤ j := by rw [List.length_take]; omega
          omega)
        clear hbC
        go_wp2_with (first | (at_builtin; refine OwR.wp (K := KW) rfl _ _ rfl w.heap.size u4 _ rfl HEC.out.own HSZ.out ⟨_, 0, none⟩ 1 _ [x] rfl rfl HNW.out HLN.out ?_; intro v' w6 q6 g6 n6; have HK6 := Lib.hid (HEC.out.push q6 g6); clear q6 g6 n6))
        rw [← HO.out] at HK6
        go_roundw
        case rel => exact ⟨j + 1, by omega, by first | rfl | go_num, HK6⟩
        case measure => simp [intOf]; omega
    · obtain rfl : j = n := by omega
      have cf : decide ((j : Int) < (j : Int)) = false := by simp
      obtain ⟨a4, c4, e4, -, -⟩ := HE.out.own.sl
      obtain ⟨n4, hn4⟩ : ∃ n4, (fgt (W.take j) t).length = n4 := ⟨_, rfl⟩
      rw [hn4] at e4
      subst e4
      clear hn4
      have HF2 := Lib.hid (HF.out (.slice a4 n4 c4) wr (by
        have := HE.out
        rw [List.take_of_length_le (Nat.le_of_eq HN.out)] at this
        exact this))
      have HF3 := Lib.hid (show P (.returned (.tuple #[])) (wr.setCell ⟨b, 1, none⟩ (.slice a4 n4 c4)) by rw [← HP.out]; exact ⟨rfl, HF2.out⟩)
      clear hM
      have cf1 := cf0 1
      go_wp2_with fail
      first | exact HF3.out | exact bodyPost_ret (v := .tuple #[]) (by simp [results, Tryz.results35, go_sem]) rfl HF3.out

end Go.Proofs.YtelfinhpjokmdaaGreatDoor
