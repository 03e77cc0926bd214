/-
  Bytes: rows of bytes that the call has made, as lists of numbers; texts made of them; boxes that stay beside them.
  Conditions: none.
-/
import Derived.Test.YtccjeclncmogiaaBcell
import Derived.OwnWalk
import Derived.Laws.AppendOwn
import Derived.Laws.OwnMore
import Derived.Deep.AppendLies
import Derived.Deep.DeepMust
import Derived.Laws.BytesArg
import Derived.Lib.SmallJoins
namespace Go.Proofs.Ytccjeclncmogiaa
open Go.RowKit Go.Joins Go.ChangeShapes Go.WideShapes
set_option linter.unusedVariables false

theorem infoB : (Try.prog.info? 5).map (fun i => (i.zero, i.size, i.bytes)) = some (some (.int .u8 0), 1, 1) := by kernel_rfl

/-- the cells of a list of bytes -/
def bcells (l : List Nat) : List Value := l.map fun n : Nat => .int .u8 (n : Int)
theorem bcells_length (l : List Nat) : (bcells l).length = l.length := by simp [bcells]
theorem bcells_app (l r : List Nat) : bcells (l ++ r) = bcells l ++ bcells r := List.map_append
theorem bcells_one (l : List Nat) : ∀ u ∈ bcells l, u.oneCell' = true := by
  intro u hu
  obtain ⟨n, -, rfl⟩ := List.mem_map.1 hu
  rfl

/-- a slice of bytes that the call has made, from block 'base' on -/
def OwB (w : World) (base : Nat) (v : Value) (l : List Nat) : Prop := w.ownsRow base 5 1 v l.length (bcells l) ∧ v ≠ .slice none 0 0

theorem OwB.form {w : World} {base : Nat} {v : Value} {l : List Nat} (h : OwB w base v l) : ∃ g cap, v = .slice (some ⟨g, 0, none⟩) l.length cap ∧ base ≤ g ∧ g < w.heap.size ∧ ∀ j u, (bcells l)[j]? = some u → w.cell? ⟨g, j, none⟩ = some u := by
  obtain ⟨⟨h1, h2⟩, h3⟩ := h
  rcases h2 with ⟨e, _⟩ | ⟨g, cap, cur, e, hb, hg, hn, hc, hs, ht⟩
  · exact absurd e h3
  · refine ⟨g, cap, e, hb, (Array.getElem?_eq_some_iff.1 hg).1, fun j u hj => ?_⟩
    rw [cell_of_block hg j]
    rw [← ht, List.getElem?_take] at hj
    split at hj
    · rw [← Array.getElem?_toList]; exact hj
    · cases hj
theorem OwB.lt {w : World} {base : Nat} {v : Value} {l : List Nat} (h : OwB w base v l) : ∀ k, v.ownBlock = some k → base ≤ k ∧ k < w.heap.size := fun k hk => h.1.lt k hk
theorem OwB.alloc {w : World} {base : Nat} {v : Value} {l : List Nat} (h : OwB w base v l) (o : Obj) : OwB (w.alloc o) base v l := ⟨h.1.alloc o, h.2⟩
theorem OwB.below {w w' : World} {base : Nat} {v : Value} {l : List Nat} (h : OwB w base v l) (hb : Below w.heap.size w w') : OwB w' base v l :=
  ⟨h.1.kept (row := none) ⟨hb.os, hb.tape, hb.output, hb.size, fun i hi _ => hb.block i hi⟩ (by cases v.ownBlock <;> simp), h.2⟩
theorem OwB.le {w : World} {base base' : Nat} {v : Value} {l : List Nat} (h : OwB w base v l) (hb : base' ≤ base) : OwB w base' v l := ⟨ownsRow_le h.1 hb, h.2⟩

theorem own_ne {w : World} {base : Nat} {e : TypeId} {size : Nat} {v : Value} {n : Nat} {xs : List Value} {g : Nat} {cs : Array Value} {ty : TypeId} {fz : Nat × Nat} (h : w.ownsRow base e size v n xs) (hg : w.heap[g]? = some (.cells cs ty fz)) (hne : ty ≠ e) : v.ownBlock ≠ some g := by
  rcases h.2 with ⟨rfl, _⟩ | ⟨g', cap, cur, rfl, _, hg', _⟩
  · simp [Value.ownBlock]
  · intro hx
    simp only [Value.ownBlock, Option.some.injEq] at hx
    subst hx
    rw [hg] at hg'
    injection hg' with hg'
    injection hg' with _ h2 _
    exact hne h2

/-- a box with a value -/
abbrev BoxV (w : World) (g : Nat) (k n : Int) (s : ByteArray) : Prop := w.heap[g]? = some (.cells #[.int .i64 k, .int .i64 n, .string s] 24 (0, 0))
theorem boxV_new (w : World) (k n : Int) (s : ByteArray) : BoxV (w.alloc (.cells #[.int .i64 k, .int .i64 n, .string s] 24)) w.heap.size k n s := heap_alloc_new w _
theorem BoxV.cells {w : World} {g : Nat} {k n : Int} {s : ByteArray} (h : BoxV w g k n s) : w.cell? ⟨g, 0, none⟩ = some (.int .i64 k) ∧ w.cell? ⟨g, 1, none⟩ = some (.int .i64 n) ∧ w.cell? ⟨g, 2, none⟩ = some (.string s) := by
  refine ⟨?_, ?_, ?_⟩ <;> rw [cell_of_block h] <;> rfl
theorem BoxV.lt {w : World} {g : Nat} {k n : Int} {s : ByteArray} (h : BoxV w g k n s) : g < w.heap.size := (Array.getElem?_eq_some_iff.1 h).1
theorem BoxV.below {w w' : World} {g : Nat} {k n : Int} {s : ByteArray} (h : BoxV w g k n s) (hb : Below w.heap.size w w') : BoxV w' g k n s := (hb.block g h.lt).trans h
theorem BoxV.alloc {w : World} {g : Nat} {k n : Int} {s : ByteArray} (h : BoxV w g k n s) (o : Obj) : BoxV (w.alloc o) g k n s := h.below ((Below.refl _ _).alloc (Nat.le_refl _) _)
theorem ty_ne : (24 : TypeId) ≠ 5 := by decide
theorem BoxV.grown {w w' : World} {base g : Nat} {k n : Int} {s : ByteArray} {v : Value} {l : List Nat} (h : BoxV w g k n s) (ho : OwB w base v l) (hg : w.grownBy w' v.ownBlock) : BoxV w' g k n s :=
  (hg.block g h.lt (fun e => own_ne ho.1 h ty_ne e.symm)).trans h

theorem boxV_push {wx w1 : World} {base g : Nat} {k n : Int} {s : ByteArray} {v : Value} {l : List Nat} (h : BoxV wx g k n s) (o : Obj) (ho : OwB wx base v l) (hg : (wx.alloc o).grownBy w1 v.ownBlock) : BoxV w1 g k n s :=
  (h.alloc o).grown (ho.alloc o) hg

/-- one byte, two bytes that were just put together -/
theorem news1 (w : World) (x : Nat) : ∀ j u, (bcells [x])[j]? = some u → (w.alloc (.cells #[.int .u8 (x : Int)] 5)).cell? ((⟨w.heap.size, 0, none⟩ : Addr).add j) = some u :=
  World.news_of_block (cs := #[.int .u8 (x : Int)]) (heap_alloc_new w _)
theorem news2 (w : World) (x y : Nat) : ∀ j u, (bcells [x, y])[j]? = some u → (w.alloc (.cells #[.int .u8 (x : Int), .int .u8 (y : Int)] 5)).cell? ((⟨w.heap.size, 0, none⟩ : Addr).add j) = some u :=
  World.news_of_block (cs := #[.int .u8 (x : Int), .int .u8 (y : Int)]) (heap_alloc_new w _)
theorem news1' (w : World) (x : Nat) (z : Int) (hz : z = (x : Int)) : ∀ j u, (bcells [x])[j]? = some u → (w.alloc (.cells #[.int .u8 z] 5)).cell? ((⟨w.heap.size, 0, none⟩ : Addr).add j) = some u := by
  subst hz
  exact news1 w x
theorem add0 (g j : Nat) : (⟨g, 0, none⟩ : Addr).add j = ⟨g, j, none⟩ := by unfold Addr.add; split <;> simp_all

/-- the state of a loop that writes bytes: what was there stays, the bytes so far -/
structure En (W w : World) (B : Nat) (v : Value) (l : List Nat) : Prop where
  own : OwB w B v l
  bel : Below B W w
  sz : B ≤ w.heap.size
theorem En.alloc {W w : World} {B : Nat} {v : Value} {l : List Nat} (h : En W w B v l) (o : Obj) : En W (w.alloc o) B v l := ⟨h.own.alloc o, h.bel.alloc h.sz o, by simp; exact Nat.le_succ_of_le h.sz⟩
theorem En.step {W w w' : World} {B : Nat} {v : Value} {l : List Nat} (h : En W w B v l) (hb : Below w.heap.size w w') : En W w' B v l := ⟨h.own.below hb, h.bel.trans (hb.mono h.sz), Nat.le_trans h.sz hb.size⟩
theorem En.push {W w w' : World} {B : Nat} {v v' : Value} {l l' : List Nat} (h : En W w B v l) (ho : OwB w' B v' l') (hg : w.grownBy w' v.ownBlock) : En W w' B v' l' :=
  ⟨ho, h.bel.grown hg h.sz (fun k hk => (h.own.lt k hk).1), Nat.le_trans h.sz hg.size⟩

/-- the text of a list of bytes -/
def strB (l : List Nat) : ByteArray := strOfNums (l.map fun n : Nat => (n : Int))
/-- a text's bytes -/
def sl (s : ByteArray) : List Nat := s.data.toList.map fun b => b.toNat
theorem sl_length (s : ByteArray) : (sl s).length = s.size := by
  unfold sl
  rw [List.length_map, Array.length_toList]
  rfl
theorem sl_lt (s : ByteArray) : ∀ x ∈ sl s, x < 256 := by
  intro x hx
  obtain ⟨b, -, rfl⟩ := List.mem_map.1 hx
  exact b.toNat_lt
theorem strB_data (l : List Nat) : (strB l).data.toList = l.map fun n => UInt8.ofNat n := by
  unfold strB
  rw [strOfNums_data]
  simp
theorem sl_strB {l : List Nat} (h : ∀ x ∈ l, x < 256) : sl (strB l) = l := by
  unfold sl
  rw [strB_data, List.map_map]
  conv => rhs; rw [← List.map_id l]
  refine List.map_congr_left fun x hx => ?_
  simp only [Function.comp, id]
  rw [UInt8.toNat_ofNat']
  exact Nat.mod_eq_of_lt (h x hx)
theorem strB_sl (s : ByteArray) : strB (sl s) = s := by
  have h : (strB (sl s)).data.toList = s.data.toList := by
    rw [strB_data]
    unfold sl
    rw [List.map_map]
    conv => rhs; rw [← List.map_id s.data.toList]
    refine List.map_congr_left fun x hx => ?_
    simp
  have h2 : (strB (sl s)).data = s.data := Array.toList_inj.1 h
  cases hs : strB (sl s) with
  | mk d => rw [hs] at h2; cases s with | mk e => simp at h2; rw [h2]
theorem strB_inj {l r : List Nat} (hl : ∀ x ∈ l, x < 256) (hr : ∀ x ∈ r, x < 256) (h : strB l = strB r) : l = r := by
  rw [← sl_strB hl, ← sl_strB hr, h]

end Go.Proofs.Ytccjeclncmogiaa
