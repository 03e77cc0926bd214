/-
  A list of whole numbers that comes in, and its copy; the types of an operator, for any list.
  Conditions: none.
-/
import Derived.Test.YtceingfjdkpolaaAri8
import Derived.Test.YtceingfjdkpolaaAri10
import Derived.Laws.AppendOwnNone
import Derived.SizedLaws
import Derived.Deep.Slices
namespace Go.Proofs.Ytceingfjdkpolaa
open Go.RowKit Go.Joins Go.ChangeShapes Go.WideShapes
set_option linter.unusedVariables false

theorem infoI : (Try.prog.info? 3).map (fun i => (i.zero, i.size, i.bytes)) = some (some (.int .i64 0), 1, 8) := by kernel_rfl
theorem bytesI : Try.prog.bytesOf 3 = 8 := by kernel_rfl

def icells (f : Nat → Int) (k : Nat) : List Value := (List.range k).map fun i => .int .i64 (f i)
theorem icells_length (f : Nat → Int) (k : Nat) : (icells f k).length = k * 1 := by simp [icells]
theorem icells_at (f : Nat → Int) {i m : Nat} (h : i < m) : (icells f m)[i]? = some (.int .i64 (f i)) := by simp [icells, h]
theorem icells_one (f : Nat → Int) (m : Nat) : ∀ u ∈ icells f m, u.oneCell' = true := by
  intro u hu
  obtain ⟨i, -, rfl⟩ := List.mem_map.1 hu
  rfl
theorem icells_succ (f : Nat → Int) (k : Nat) : icells f k ++ [.int .i64 (f k)] = icells f (k + 1) := by unfold icells; rw [List.range_succ, List.map_append]; rfl

theorem isI_of_owns {w : World} {base : Nat} {v : Value} {m : Nat} {f : Nat → Int} (h : w.ownsRow base 3 1 v m (icells f m)) (hv : v ≠ .slice none 0 0) :
    ∃ g cap', v = .slice (some ⟨g, 0, none⟩) m cap' ∧ IsI w g 0 m f := by
  rcases h.2 with ⟨e, _⟩ | ⟨g, cap', cur, e, _, hg, _⟩
  · exact absurd e hv
  · subst e
    refine ⟨g, cap', rfl, ⟨fun _ => (Array.getElem?_eq_some_iff.1 hg).1, fun i hi => ?_⟩⟩
    rw [Nat.zero_add, h.cellAt _ (by omega)]
    exact icells_at f hi

theorem after_appendI {w0 w' w1 : World} {v v' : Value} {n m : Nat} {xs news : List Value} (hB : Below w0.heap.size w0 w') (ho : w'.ownsRow w0.heap.size 3 1 v n xs) (hv : v ≠ .slice none 0 0)
    (hown : w1.ownsRow w0.heap.size 3 1 v' (n + m) (xs ++ news)) (hgrow : w'.grownBy w1 v.ownBlock) (hnil : v' = .slice none 0 0 ↔ v = .slice none 0 0 ∧ m = 0) (f : Nat → Int) (k : Nat) (hk : n + m = k) (hx : xs ++ news = icells f k) :
    ∃ g cap', v' = .slice (some ⟨g, 0, none⟩) k cap' ∧ IsI w1 g 0 k f ∧ Below w0.heap.size w0 w1 := by
  rw [hk, hx] at hown
  obtain ⟨g, cap', e, h⟩ := isI_of_owns hown (fun e => hv (hnil.1 e).1)
  exact ⟨g, cap', e, h, hB.grown hgrow hB.size (fun k' hk' => (ho.lt k' hk').1)⟩

theorem news_of_isI {w : World} {b off m : Nat} {f : Nat → Int} (h : IsI w b off m f) {ad : Addr} (ha : 0 < m → ad = ⟨b, off, none⟩) : ∀ j u, (icells f m)[j]? = some u → w.cell? (ad.add j) = some u := by
  intro j u hu
  have hl := icells_length f m
  have hj : j < m := by
    have := (List.getElem?_eq_some_iff.1 hu).1
    omega
  rw [icells_at f hj] at hu
  injection hu with hu
  subst hu
  rw [ha (by omega)]
  have ea : ∀ j, (⟨b, off, none⟩ : Addr).add j = ⟨b, off + j, none⟩ := by intro j; unfold Addr.add; split <;> simp_all
  rw [ea]
  exact h.c j hj

theorem open_is {H : Type} {enc : TypeId × Value → H} {W : World} {base b0 : Nat} {r : Reach} {v : Value} {d : DataW H} {p : List MemPlace}
    (o : Value.okWide Try.prog W r b0 35 v) (h : DataW.Trod enc Try.prog W base (fun _ => true) true 35 v d p) :
    ∃ (a : Option Addr) (len cap b off : Nat) (f : Nat → Int), v = .slice a len cap ∧ len ≤ cap ∧ cap ≤ maxLen ∧ (len = 0 ∨ a = some ⟨b, off, none⟩) ∧ IsI W b off len f ∧
      ((a = none ∧ len = 0 ∧ cap = 0) ∨ ∃ ad, a = some ad ∧ (0 < len → ad = ⟨b, off, none⟩)) ∧
      ((d = .nil ∧ len = 0) ∨ ∃ es sp, d = .slice es sp ∧ es.length + sp.length = cap) := by
  obtain ⟨a, len, cap, rfl⟩ := okWide_slice Try.underlying35 o
  obtain ⟨fuel, hf⟩ := h
  rcases Go.Deep.open_slice Try.underlying35 hf with ⟨hcs, hx⟩ | ⟨a', len', cap', m, n, D, Pl, hcs, hb, hl, hm, hmm, hx, hi⟩
  · simp [Value.cells] at hcs
    obtain ⟨rfl, rfl, rfl⟩ := hcs
    simp only [Prod.mk.injEq] at hx
    exact ⟨none, 0, 0, 0, 0, fun _ => 0, rfl, Nat.le_refl _, by decide, .inl rfl, ⟨fun h => absurd h (by decide), fun i hi => absurd hi (by omega)⟩, .inl ⟨rfl, rfl, rfl⟩, .inl ⟨hx.1, rfl⟩⟩
  · simp [Value.cells] at hcs
    obtain ⟨rfl, rfl, rfl⟩ := hcs
    simp only [Prod.mk.injEq] at hx
    simp only [if_true] at hmm
    subst hmm
    rw [cells_int] at hi
    have hcell : ∀ i, i < len → ∃ t, W.cell? (a'.add i) = some (.int .i64 t) := by
      intro i hil
      obtain ⟨cs', hc, ht⟩ := hi i (by omega)
      obtain ⟨_, hcl, hat⟩ := World.cells?_some hc
      obtain ⟨k, e0, -, -⟩ := DataW.trod_int Try.underlying3 ht
      subst e0
      have := hat 0 (by decide)
      exact ⟨k, by simpa [Addr.add] using this⟩
    by_cases h0 : len = 0
    · exact ⟨_, _, _, 0, 0, fun _ => 0, rfl, hl, hm, .inl h0, ⟨fun h => by omega, fun i hi => by omega⟩, .inr ⟨_, rfl, fun h => by omega⟩, .inr ⟨_, _, hx.1, by simp; omega⟩⟩
    · have hsp : a'.spot = none := by
        obtain ⟨k, c⟩ := hcell 0 (by omega)
        simpa [Addr.add] using World.cell?_spot c
      obtain ⟨b, off, spot⟩ := a'
      simp only at hsp
      subst hsp
      have ea : ∀ j, (⟨b, off, none⟩ : Addr).add j = ⟨b, off + j, none⟩ := by intro j; unfold Addr.add; split <;> simp_all
      have hlt : b < W.heap.size := by
        obtain ⟨k, c⟩ := hcell 0 (by omega)
        rw [ea] at c
        exact World.block_lt_of_cell? W _ c
      refine ⟨some ⟨b, off, none⟩, _, _, b, off, fun i => cInt (W.cell? ⟨b, off + i, none⟩), rfl, hl, hm, .inr rfl, ⟨fun _ => hlt, fun i hil => ?_⟩, .inr ⟨_, rfl, fun _ => rfl⟩, .inr ⟨_, _, hx.1, by simp; omega⟩⟩
      obtain ⟨k, c⟩ := hcell i hil
      rw [ea] at c
      rw [c]; rfl

theorem reachI {H : Type} {ts : List TypeId} {ds : List (DataW H)} (hz : (DataW.weightsEach Try.prog ts ds).all (· ≤ reachBytes) = true) {j m cap : Nat} {d : DataW H} (ht : ts[j]? = some 35) (hj : ds[j]? = some d) (hl : m ≤ cap)
    (hd : (d = .nil ∧ m = 0) ∨ ∃ es sp, d = .slice es sp ∧ es.length + sp.length = cap) : m * 8 ≤ 140737488351232 := by
  rcases hd with ⟨-, rfl⟩ | ⟨es, sp, rfl, e⟩
  · omega
  · have := sized_slice hz ht hj Try.underlying35
    rw [bytesI, e] at this
    unfold reachBytes at this
    omega

theorem type_all (op : Int) (A : Option Addr) (b off m cap : Nat) (f : Nat → Int) (hm : m ≤ maxLen) (ha : m = 0 ∨ A = some ⟨b, off, none⟩) (w : World) (hA : IsI w b off m f) :
    Calls Try.prog 15 #[.int .i64 op, .slice A m cap] w fun e w' => e = .returned (.tuple #[.int .i64 (tyV op m (f 0) (f (m - 1))), .bool (tyV op m (f 0) (f (m - 1)) != 0)]) ∧ w = w' := by
  by_cases h : m = 0 ∨ cntV op ≠ m
  · rw [ty_bad _ _ h]
    exact type_bad op A m cap hm h w
  · have hc : cntV op = m := by omega
    have h12 : m = 1 ∨ m = 2 := by rcases cnt_le op with g | g | g <;> omega
    obtain rfl : A = some ⟨b, off, none⟩ := by rcases ha with g | g; omega; exact g
    exact type_good op b off m cap f w h12 hc hA

theorem reftype_all (op : Int) (A : Option Addr) (b off m cap : Nat) (f : Nat → Int) (hm : m ≤ maxLen) (ha : m = 0 ∨ A = some ⟨b, off, none⟩) (w : World) (hA : IsI w b off m f) :
    Calls Try.prog 16 #[.int .i64 op, .slice A m cap] w fun e w' => e = .returned (.tuple #[.int .i64 (tyV op m (f 0) (f (m - 1))), .bool (tyV op m (f 0) (f (m - 1)) != 0)]) ∧ ∃ n, w' = w.drewN n := by
  by_cases h : m = 0 ∨ cntV op ≠ m
  · rw [ty_bad _ _ h]
    exact (reftype_bad op A m cap hm (by omega) w).mono fun e w' ⟨h1, h2⟩ => ⟨h1, 0, h2 ▸ rfl⟩
  · have hc : cntV op = m := by omega
    have h12 : m = 1 ∨ m = 2 := by rcases cnt_le op with g | g | g <;> omega
    obtain rfl : A = some ⟨b, off, none⟩ := by rcases ha with g | g; omega; exact g
    rcases h12 with rfl | rfl
    · exact reftype_1 op b off cap f w hc hA
    · exact reftype_2 op b off cap f w hc hA

end Go.Proofs.Ytceingfjdkpolaa
