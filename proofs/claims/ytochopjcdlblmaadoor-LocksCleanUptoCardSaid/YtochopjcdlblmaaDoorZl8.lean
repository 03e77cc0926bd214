/-
  Texts of mine put together, in build order.
  Conditions: as each declaration says.
-/
import Derived.Deep.Slices
import Derived.Deep.Fields
import Derived.Deep.Strs
import Derived.Lib.SmallJoins
import Derived.Test.YtochopjcdlblmaaDoorZl7
namespace Go.Proofs.YtochopjcdlblmaaDoor
set_option maxRecDepth 100000
open Go.RowKit Go.Joins Go.ChangeShapes Go.WideShapes
set_option linter.unusedVariables false
set_option linter.unusedSimpArgs false

theorem up_one {H : Type} (d : DataW H) : 1 ≤ Rows.uptoBulk d := by
  cases d with
  | lit l => cases l <;> simp [Rows.uptoBulk]
  | _ => simp [Rows.uptoBulk]
theorem up_mem {H : Type} {d : DataW H} : ∀ {l : List (DataW H)}, d ∈ l → Rows.uptoBulk d ≤ Rows.uptoBulkAll l
  | [], h => by cases h
  | x :: r, h => by
    unfold Rows.uptoBulkAll
    rcases List.mem_cons.1 h with rfl | h
    · omega
    · have := up_mem h; omega
theorem up_len {H : Type} : ∀ (l : List (DataW H)), l.length ≤ Rows.uptoBulkAll l
  | [] => by simp
  | x :: r => by
    unfold Rows.uptoBulkAll
    have := up_one x
    have := up_len r
    rw [List.length_cons]
    omega
theorem up_many {H : Type} (k : Nat) : ∀ (l : List (DataW H)), (∀ d ∈ l, k ≤ Rows.uptoBulk d) → l.length * k ≤ Rows.uptoBulkAll l
  | [], _ => by simp
  | x :: r, h => by
    unfold Rows.uptoBulkAll
    have h1 := h x (List.mem_cons_self ..)
    have h2 := up_many k r fun d hd => h d (List.mem_cons_of_mem _ hd)
    rw [List.length_cons, Nat.add_mul, Nat.one_mul]
    omega
theorem up_all {H : Type} {l : List (DataW H)} (hk : Rows.uptoSmall H l = true) : Rows.uptoBulkAll l ≤ 1048576 := of_decide_eq_true hk
theorem up_arg {H : Type} {l : List (DataW H)} (hk : Rows.uptoSmall H l = true) {d : DataW H} (h : d ∈ l) : Rows.uptoBulk d ≤ 1048576 := Nat.le_trans (up_mem h) (up_all hk)
theorem cells_io : Tryd.prog.cellsOf 3 = 1 := by kernel_rfl
theorem cells_so : Tryd.prog.cellsOf 9 = 1 := by kernel_rfl
/-- whole numbers that came in -/
structure IntA (W : World) (a : Option Addr) (l : List Int) : Prop where
  b : ∃ b off, (l = [] ∨ a = some ⟨b, off, none⟩) ∧ (0 < l.length → b < W.heap.size) ∧ ∀ i x, l[i]? = some x → W.cell? ⟨b, off + i, none⟩ = some (.int .i64 x)
theorem IntA.at {W : World} {a : Option Addr} {l : List Int} (h : IntA W a l) {i : Nat} {x : Int} (hx : l[i]? = some x) : ∃ b off, a = some ⟨b, off, none⟩ ∧ W.cell? ⟨b, off + i, none⟩ = some (.int .i64 x) := by
  obtain ⟨b, off, h1, h2, h3⟩ := h.b
  rcases h1 with rfl | h1
  · simp at hx
  · exact ⟨b, off, h1, h3 i x hx⟩
theorem IntA.below {W W1 : World} {a : Option Addr} {l : List Int} (h : IntA W a l) (hb : Below W.heap.size W W1) : IntA W1 a l := by
  obtain ⟨b, off, h1, h2, h3⟩ := h.b
  refine ⟨b, off, h1, fun h => Nat.lt_of_lt_of_le (h2 h) hb.size, fun i x hx => (hb.cell (p := ⟨b, off + i, none⟩) (h2 ?_)).trans (h3 i x hx)⟩
  cases l with
  | nil => simp at hx
  | cons y l => simp
theorem open_intsR {H : Type} {enc : TypeId × Value → H} {W : World} {base b0 : Nat} {r : Reach} {v : Value} {d : DataW H} {p : List MemPlace}
    (o : Value.okWide Tryd.prog W r b0 29 v) (h : DataW.Trod enc Tryd.prog W base (fun _ => true) true 29 v d p) (hb : Rows.uptoBulk d ≤ 1048576) :
    ∃ (a : Option Addr) (cap : Nat) (l : List Int), v = .slice a l.length cap ∧ l.length ≤ 1048576 ∧ IntA W a l ∧ ∀ x ∈ l, (Lit.int .i64 x).wf = true := by
  obtain ⟨a, len, cap, rfl⟩ := okWide_slice Tryd.underlying29 o
  obtain ⟨fuel, hf⟩ := h
  rcases Go.Deep.open_slice1 Tryd.underlying29 cells_io hf with ⟨hcs, hx⟩ | ⟨a', len', cap', m, n, V, D, Pl, hcs, hbb, hl, hm, hmm, hx, hi⟩
  · simp [Value.cells] at hcs
    obtain ⟨rfl, rfl, rfl⟩ := hcs
    exact ⟨none, 0, [], rfl, by decide, ⟨0, 0, .inl rfl, fun h => absurd h (by decide), fun i x hx => by simp at hx⟩, fun x hx => by cases hx⟩
  · simp [Value.cells] at hcs
    obtain ⟨rfl, rfl, rfl⟩ := hcs
    simp only [if_true] at hmm
    subst hmm
    simp only [Prod.mk.injEq] at hx
    obtain ⟨rfl, -⟩ := hx
    have hbs : Rows.uptoBulkAll ((List.range len).map D) + Rows.uptoBulkAll ((List.range (m - len)).map fun j => D (len + j)) + 1 ≤ 1048576 := by
      unfold Rows.uptoBulk at hb
      exact hb
    have l1 := up_len ((List.range len).map D)
    rw [List.length_map, List.length_range] at l1
    have hk : ∀ i, ∃ z : Int, i < len → V i = .int .i64 z ∧ (Lit.int .i64 z).wf = true := by
      intro i
      by_cases hil : i < len
      · obtain ⟨k, e0, -, e2⟩ := DataW.trod_int Tryd.underlying3 (hi i (by omega)).2
        injection e0 with e0
        exact ⟨k, fun _ => ⟨e0, e2⟩⟩
      · exact ⟨0, fun h => absurd h hil⟩
    obtain ⟨f, hfz⟩ := Classical.axiomOfChoice hk
    obtain ⟨l, hl0⟩ : ∃ l, (List.range len).map f = l := ⟨_, rfl⟩
    have hll : l.length = len := by rw [← hl0]; simp
    have hat : ∀ i x, l[i]? = some x → i < len ∧ f i = x := fun i x hx => by
      have hil : i < len := by rw [← hll]; exact (List.getElem?_eq_some_iff.1 hx).1
      rw [← hl0, List.getElem?_map, List.getElem?_range hil] at hx
      exact ⟨hil, by simpa using hx⟩
    have hwf : ∀ x ∈ l, (Lit.int .i64 x).wf = true := fun x hx => by
      obtain ⟨i, hi'⟩ := List.getElem?_of_mem hx
      obtain ⟨h1, h2⟩ := hat i x hi'
      rw [← h2]; exact (hfz i h1).2
    by_cases h0 : len = 0
    · have : l = [] := List.eq_nil_of_length_eq_zero (by rw [hll, h0])
      refine ⟨_, _, l, by rw [hll], by omega, ⟨0, 0, .inl this, fun h => absurd h (by rw [this]; decide), fun i x hx => by rw [this] at hx; simp at hx⟩, hwf⟩
    · have hsp : a'.spot = none := by
        have c := (hi 0 (by omega)).1
        simpa [Addr.add] using World.cell?_spot c
      obtain ⟨b, off, spot⟩ := a'
      simp only at hsp
      subst hsp
      have ea : ∀ j, (⟨b, off, none⟩ : Addr).add j = ⟨b, off + j, none⟩ := by intro j; unfold Addr.add; split <;> simp_all
      have hlt : b < W.heap.size := by
        have c := (hi 0 (by omega)).1
        rw [ea] at c
        exact World.block_lt_of_cell? W _ c
      refine ⟨_, _, l, by rw [hll], by omega, ⟨b, off, .inr rfl, fun _ => hlt, fun i x hx => ?_⟩, hwf⟩
      obtain ⟨h1, rfl⟩ := hat i x hx
      rw [← ea, ← (hfz i h1).1]
      exact (hi i (by omega)).1
/-- a step of a script -/
structure Op10 where
  kind : Int
  txn : Int
  mode : Int
  res : RS
/-- a script that came in -/
structure OpsA (W : World) (a : Option Addr) (l : List Op10) : Prop where
  b : ∃ b off, (l = [] ∨ a = some ⟨b, off, none⟩) ∧ (0 < l.length → b < W.heap.size) ∧ ∀ i x, l[i]? = some x → W.cell? ⟨b, off + i * 4, none⟩ = some (.int .i64 x.kind) ∧ W.cell? ⟨b, off + i * 4 + 1, none⟩ = some (.int .i64 x.txn) ∧ W.cell? ⟨b, off + i * 4 + 2, none⟩ = some (.int .i64 x.mode) ∧ W.cell? ⟨b, off + i * 4 + 3, none⟩ = some (.string ⟨x.res.toArray⟩)
theorem OpsA.at {W : World} {a : Option Addr} {l : List Op10} (h : OpsA W a l) {i : Nat} {x : Op10} (hx : l[i]? = some x) : ∃ b off, a = some ⟨b, off, none⟩ ∧ W.cell? ⟨b, off + i * 4, none⟩ = some (.int .i64 x.kind) ∧ W.cell? ⟨b, off + i * 4 + 1, none⟩ = some (.int .i64 x.txn) ∧ W.cell? ⟨b, off + i * 4 + 2, none⟩ = some (.int .i64 x.mode) ∧ W.cell? ⟨b, off + i * 4 + 3, none⟩ = some (.string ⟨x.res.toArray⟩) := by
  obtain ⟨b, off, h1, h2, h3⟩ := h.b
  rcases h1 with rfl | h1
  · simp at hx
  · exact ⟨b, off, h1, h3 i x hx⟩
theorem OpsA.below {W W1 : World} {a : Option Addr} {l : List Op10} (h : OpsA W a l) (hb : Below W.heap.size W W1) : OpsA W1 a l := by
  obtain ⟨b, off, h1, h2, h3⟩ := h.b
  refine ⟨b, off, h1, fun h => Nat.lt_of_lt_of_le (h2 h) hb.size, fun i x hx => ?_⟩
  have hl : b < W.heap.size := h2 (by
    cases l with
    | nil => simp at hx
    | cons y l => simp)
  obtain ⟨g0, g1, g2, g3⟩ := h3 i x hx
  exact ⟨(hb.cell (p := ⟨b, _, none⟩) hl).trans g0, (hb.cell (p := ⟨b, _, none⟩) hl).trans g1, (hb.cell (p := ⟨b, _, none⟩) hl).trans g2, (hb.cell (p := ⟨b, _, none⟩) hl).trans g3⟩
theorem cells_op10 : Tryd.prog.cellsOf 27 = 4 := by kernel_rfl
theorem open_ops10 {H : Type} {enc : TypeId × Value → H} {W : World} {base b0 : Nat} {r : Reach} {v : Value} {d : DataW H} {p : List MemPlace}
    (o : Value.okWide Tryd.prog W r b0 22 v) (h : DataW.Trod enc Tryd.prog W base (fun _ => true) true 22 v d p) (hb : Rows.uptoBulk d ≤ 1048576) :
    ∃ (a : Option Addr) (cap : Nat) (l : List Op10), v = .slice a l.length cap ∧ l.length * 5 ≤ 1048576 ∧ OpsA W a l ∧ ∀ x ∈ l, okB x.txn x.res := by
  obtain ⟨a, len, cap, rfl⟩ := okWide_slice Tryd.underlying22 o
  obtain ⟨fuel, hf⟩ := h
  rcases Go.Deep.open_slice Tryd.underlying22 hf with ⟨hcs, hx⟩ | ⟨a', len', cap', m, n, D, Pl, hcs, hbb, hl, hm, hmm, hx, hi⟩
  · simp [Value.cells] at hcs
    obtain ⟨rfl, rfl, rfl⟩ := hcs
    exact ⟨none, 0, [], rfl, by decide, ⟨0, 0, .inl rfl, fun h => absurd h (by decide), fun i x hx => by simp at hx⟩, fun x hx => by cases hx⟩
  · simp [Value.cells] at hcs
    obtain ⟨rfl, rfl, rfl⟩ := hcs
    simp only [if_true] at hmm
    subst hmm
    simp only [Prod.mk.injEq] at hx
    obtain ⟨rfl, -⟩ := hx
    rw [cells_op10] at hi
    have hbs : Rows.uptoBulkAll ((List.range len).map D) + Rows.uptoBulkAll ((List.range (m - len)).map fun j => D (len + j)) + 1 ≤ 1048576 := by
      unfold Rows.uptoBulk at hb
      exact hb
    have hk : ∀ i, ∃ x : Op10, i < len → (W.cell? (a'.add (i * 4)) = some (.int .i64 x.kind) ∧ W.cell? ((a'.add (i * 4)).add 1) = some (.int .i64 x.txn) ∧ W.cell? ((a'.add (i * 4)).add 2) = some (.int .i64 x.mode) ∧ W.cell? ((a'.add (i * 4)).add 3) = some (.string ⟨x.res.toArray⟩)) ∧ okB x.txn x.res ∧ 5 ≤ Rows.uptoBulk (D i) := by
      intro i
      by_cases hil : i < len
      · obtain ⟨cs', hc, ht⟩ := hi i (by omega)
        obtain ⟨y0, y1, y2, y3, n', hy, hlen, g0, g1, g2, g3⟩ := trod_struct4 Tryd.underlying27 ht
        rw [cells_op10] at hlen
        obtain ⟨_, hcl, hat⟩ := World.cells?_some hc
        match cs', hlen with
        | [q0, q1, q2, q3], _ =>
          obtain ⟨k0, e0, f0, -⟩ := DataW.trod_int Tryd.underlying3 g0
          obtain ⟨k1, e1, f1, w1⟩ := DataW.trod_int Tryd.underlying3 g1
          obtain ⟨k2, e2, f2, -⟩ := DataW.trod_int Tryd.underlying3 g2
          obtain ⟨s, e3, f3, w3⟩ := DataW.trod_string Tryd.underlying9 g3
          simp only [cells_io, cells_so] at e0 e1 e2 e3
          simp at e0 e1 e2 e3
          subst e0 e1 e2 e3
          have h1 := congrArg Prod.fst hy
          simp only at h1
          refine ⟨⟨k0, k1, k2, s.data.toList⟩, fun _ => ⟨⟨?_, hat 1 (by decide), hat 2 (by decide), by have := hat 3 (by decide); simpa using this⟩, ⟨w1, by simpa using w3⟩, ?_⟩⟩
          · have := hat 0 (by decide)
            simpa [Addr.add] using this
          · rw [h1, f0, f1, f2, f3]
            simp only [Rows.uptoBulk, Rows.uptoBulkAll]
            omega
      · exact ⟨⟨0, 0, 0, []⟩, fun h => absurd h hil⟩
    obtain ⟨f, hfz⟩ := Classical.axiomOfChoice hk
    have l1 := up_many 5 ((List.range len).map D) fun d hd => by
      obtain ⟨i, hi', rfl⟩ := List.mem_map.1 hd
      exact (hfz i (List.mem_range.1 hi')).2.2
    rw [List.length_map, List.length_range] at l1
    obtain ⟨l, hl0⟩ : ∃ l, (List.range len).map f = l := ⟨_, rfl⟩
    have hll : l.length = len := by rw [← hl0]; simp
    have hat : ∀ i x, l[i]? = some x → i < len ∧ f i = x := fun i x hx => by
      have hil : i < len := by rw [← hll]; exact (List.getElem?_eq_some_iff.1 hx).1
      rw [← hl0, List.getElem?_map, List.getElem?_range hil] at hx
      exact ⟨hil, by simpa using hx⟩
    have hwf : ∀ x ∈ l, okB x.txn x.res := fun x hx => by
      obtain ⟨i, hi'⟩ := List.getElem?_of_mem hx
      obtain ⟨h1, h2⟩ := hat i x hi'
      rw [← h2]; exact (hfz i h1).2.1
    by_cases h0 : len = 0
    · have : l = [] := List.eq_nil_of_length_eq_zero (by rw [hll, h0])
      exact ⟨_, _, l, by rw [hll], by omega, ⟨0, 0, .inl this, fun h => absurd h (by rw [this]; decide), fun i x hx => by rw [this] at hx; simp at hx⟩, hwf⟩
    · have hsp : a'.spot = none := by
        have c := (hfz 0 (by omega)).1.1
        simpa [Addr.add] using World.cell?_spot c
      obtain ⟨b, off, spot⟩ := a'
      simp only at hsp
      subst hsp
      have ea : ∀ j, (⟨b, off, none⟩ : Addr).add j = ⟨b, off + j, none⟩ := by intro j; unfold Addr.add; split <;> simp_all
      have eb : ∀ j k, ((⟨b, off, none⟩ : Addr).add j).add k = ⟨b, off + j + k, none⟩ := by intro j k; rw [Go.Deep.add_add, ea, Nat.add_assoc]
      have hlt : b < W.heap.size := by
        have c := (hfz 0 (by omega)).1.1
        rw [ea] at c
        exact World.block_lt_of_cell? W _ c
      refine ⟨_, _, l, by rw [hll], by omega, ⟨b, off, .inr rfl, fun _ => hlt, fun i x hx => ?_⟩, hwf⟩
      obtain ⟨h1, rfl⟩ := hat i x hx
      obtain ⟨⟨q0, q1, q2, q3⟩, -⟩ := hfz i h1
      rw [ea] at q0
      rw [eb] at q1 q2 q3
      exact ⟨q0, q1, q2, q3⟩

end Go.Proofs.YtochopjcdlblmaaDoor

namespace Go.Proofs.YtochopjcdlblmaaDoor
set_option maxRecDepth 100000
open Go.RowKit Go.Joins Go.ChangeShapes Go.WideShapes
open Go.MapKept
set_option linter.unusedVariables false
set_option linter.unusedSimpArgs false

structure Lr (w wx : World) (b a : Nat) (F : Bl) (T : TbL RS) (v : Value) (xs : List Int) (A : Int → Nat) : Prop where
  tb : TbA w wx b F T
  mp : CntM wx a A
  row : QI wx w.heap.size v xs
  na : ¬ F a
  nv : ∀ k, v.ownBlock = some k → ¬ F k
  lo : w.heap.size ≤ a
theorem CntM.kind {w : World} {b : Nat} {A : Int → Nat} (h : CntM w b A) : ∃ es c, w.heap[b]? = some (.map es c) := by
  obtain ⟨f, n, ⟨es, c, h1, -⟩, -⟩ := h
  exact ⟨es, c, h1⟩
section
variable {w wx wy : World} {b a : Nat} {F F' : Bl} {T T' : TbL RS} {v v' : Value} {xs xs' : List Int} {A : Int → Nat}
theorem Lr.ne (h : Lr w wx b a F T v xs A) {k : Nat} (hk : v.ownBlock = some k) : k ≠ a := by
  rintro rfl
  obtain ⟨cur, e1⟩ := QR.kind h.row hk
  obtain ⟨es, c, e2⟩ := h.mp.kind
  rw [e1] at e2
  injection e2 with e2
  cases e2
theorem Lr.below (h : Lr w wx b a F T v xs A) (hb : Below wx.heap.size wx wy) : Lr w wy b a F T v xs A :=
  ⟨h.tb.below hb, h.mp.below hb, h.row.step (F := fun _ => False) (Frm.of_below hb) (fun _ _ e => e), h.na, h.nv, h.lo⟩
theorem Lr.put (h : Lr w wx b a F T v xs A) (x : Int) (z : Nat) : ∃ w', (Instr.mapUpdate 35 (.map (some a)) (.int .i64 x) (.int .i64 (z : Int))).run Tryd.prog wx = .ok () w' ∧ Lr w w' b a F T v xs (setA A x z) := by
  obtain ⟨w', hr, hm, hf⟩ := h.mp.put x z
  exact ⟨w', hr, h.tb.step hf (fun k hk => by rw [hk]; exact h.na) (fun k hk => by rw [hk]; exact h.lo), hm, h.row.step hf (fun k hk e => h.ne hk e), h.na, h.nv, h.lo⟩
theorem Lr.went (h : Lr w wx b a F T v xs A) (hT : TbA w wy b F' T') (hf : Frm F wx wy) (hn : New wx F F') : Lr w wy b a F' T' v xs A :=
  ⟨hT, h.mp.step hf h.na, h.row.step hf h.nv, fun c => by
    rcases hn a c with e | e
    · exact h.na e
    · have := h.mp.lt; omega, fun k hk c => by
    rcases hn k c with e | e
    · exact h.nv k hk e
    · have := (h.row.lt k hk).2; omega, h.lo⟩
theorem Lr.push (h : Lr w wx b a F T v xs A) (hq : QI wy w.heap.size v' xs') (hg : wx.grownBy wy v.ownBlock) (hn : NewO wx v v') : Lr w wy b a F T v' xs' A := by
  have hf : Frm (fun k => v.ownBlock = some k) wx wy := Frm.grown (F := fun k => v.ownBlock = some k) (Frm.refl _ wx) hg (fun k hk => .inl hk)
  refine ⟨h.tb.step hf h.nv (fun k hk => (h.row.lt k hk).1), h.mp.step hf (fun c => h.ne c rfl), hq, h.na, fun k hk c => ?_, h.lo⟩
  rcases hn k hk with e | e
  · exact h.nv k e c
  · have := h.tb.hi c; omega
theorem siz_row (r : List Int) : sizT (rowT ([97] : RS) 6 r) ≤ r.length := by
  cases r with
  | nil => exact Nat.le_refl _
  | cons x r => simp [rowT, sizT]; omega
theorem row_ask10 {x : Int} {xs : List Int} (h : x ∉ xs) : askL ordT mds (rowT ([97] : RS) 6 xs) x [97] 6 = (rowT [97] 6 (xs ++ [x]), if xs = [] then 1 else 2) := row_ask ordT mds (by decide) (by decide) h
theorem row_drop10 {x : Int} {r : List Int} (h : (x :: r).Nodup) : dropL ordT mds (rowT ([97] : RS) 6 (x :: r)) x = (rowT [97] 6 r, r.take 1) := row_drop ordT mds (by decide) (by decide) h
/-- a number out of a row -/
theorem QI.one {wx : World} {B g o n cap : Nat} {l : List Int} (h : QI wx B (.slice (some ⟨g, o, none⟩) n cap) l) {i : Nat} {x : Int} (hx : l[i]? = some x) : QI wx B (.slice (some ⟨g, o + i, none⟩) 1 (cap - i)) [x] := by
  rcases h with ⟨e, -⟩ | ⟨g', o', cap', cur, e, h2, h3, h4, h5, h6, h7⟩
  · simp at e
  · simp only [Value.slice.injEq, Option.some.injEq, Addr.mk.injEq, and_true] at e
    obtain ⟨⟨rfl, rfl⟩, e2, rfl⟩ := e
    have hi : i < l.length := (List.getElem?_eq_some_iff.1 hx).1
    rw [icells_length] at h4
    refine .inr ⟨g, o + i, cap - i, cur, rfl, h2, h3, by rw [icells_length]; simp; omega, by omega, by omega, fun j u hu => ?_⟩
    match j with
    | 0 =>
      have hu' : u = .int .i64 x := by simpa [icells] using hu.symm
      rw [hu']
      exact h7 i _ (icells_at hx)
    | j + 1 => simp [icells] at hu
end

end Go.Proofs.YtochopjcdlblmaaDoor
