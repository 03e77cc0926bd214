/-
  The tables of modes as the program's variables hold them; the calls on modes: contracts over the translation.
  Conditions: the variables hold what the program's text lays.
-/
import Derived.Test.YtgndbhgpdcelpaaDoorRows
import Derived.WalkKit
import Derived.ProofKit
import Derived.OpenShut
import Derived.LaidMore
import Derived.LaidLaws
import Derived.Lib.Hide
import Derived.Below
import Derived.Lib.SmallJoins
import Derived.Carry
import Derived.ShutString
namespace Go.Proofs.YtgndbhgpdcelpaaDoor
set_option maxRecDepth 100000
open Go.ChangeShapes Go.WideShapes Go.RowKit
set_option linter.unusedVariables false
set_option linter.unusedSimpArgs false

def tgL : List (List Bool) := [[true, true, true, true, true, true, true], [true, true, true, true, true, true, false], [true, true, true, false, false, false, false], [true, true, false, true, false, true, false], [true, true, false, false, false, false, false], [true, true, false, true, false, false, false], [true, false, false, false, false, false, false]]
def cvL : List (List Bool) := [[true, false, false, false, false, false, false], [true, true, false, false, false, false, false], [true, true, true, false, false, false, false], [true, true, false, true, false, false, false], [true, true, true, true, true, false, false], [true, true, false, true, false, true, false], [true, true, true, true, true, true, true]]
def tbD {H : Type} (L : List (List Bool)) : DataW H := .agg (L.map fun r => .agg (r.map fun b => .lit (.bool b)))
def tb (L : List (List Bool)) (i j : Nat) : Bool := (L.getD i []).getD j false
/-- global g holds the table L -/
def TabB (w : World) (g : Nat) (L : List (List Bool)) : Prop := g < w.heap.size ∧ ∀ i j, i < 7 → j < 7 → w.cell? ⟨g, i * 7 + j, none⟩ = some (.bool (tb L i j))
theorem TabB.below {w w1 : World} {g : Nat} {L : List (List Bool)} (h : TabB w g L) (hb : Below w.heap.size w w1) : TabB w1 g L := ⟨Nat.lt_of_lt_of_le h.1 hb.size, fun i j hi hj => (hb.cell h.1).trans (h.2 i j hi hj)⟩

section
variable {H : Type} {enc : TypeId × Value → H} {P : Program} {w : World} {base : Nat} {sp : Nat → Bool} {held : Bool}
theorem row_bools {fuel n : Nat} {t e : TypeId} {cs : List Value} {bs : List Bool} {p : List MemPlace} (ht : P.underlying t = some (.array n e)) (he : P.underlying e = some .bool) (hce : P.cellsOf e = 1)
    (h : DataW.trod enc P w base sp held fuel t cs = some (.agg (bs.map fun b => .lit (.bool b)), p)) : ∀ j b, j < n → bs[j]? = some b → cs[j]? = some (.bool b) := by
  obtain ⟨xs, m, rfl, hx, hl, hn, hel⟩ := DataW.trod_array ht h
  intro j b hj hb
  have h1 := hel j hj
  rw [hce, Nat.mul_one] at h1
  have hxj : xs[j]? = some (xs[j]'(by omega)) := List.getElem?_eq_getElem _
  rw [hxj] at h1
  obtain ⟨b', e1, e2⟩ := DataW.trod_bool he h1
  have hd := congrArg Prod.fst hx
  simp only [DataW.agg.injEq] at hd
  have h2 : (bs.map fun b => (.lit (.bool b) : DataW H))[j]? = some (xs[j]'(by omega)).1 := by rw [hd, List.getElem?_map, hxj]; rfl
  rw [List.getElem?_map, hb, e2] at h2
  simp only [Option.map_some, Option.some.injEq, DataW.lit.injEq, Lit.bool.injEq] at h2
  subst h2
  have h3 : (cs.drop j)[0]? = some (.bool b) := by
    have : ((cs.drop j).take 1)[0]? = some (.bool b) := by rw [e1]; rfl
    rw [List.getElem?_take] at this
    simpa using this
  simpa using h3
theorem tab_bools {fuel : Nat} {t e u : TypeId} {cs : List Value} {L : List (List Bool)} {p : List MemPlace} (ht : P.underlying t = some (.array 7 u)) (hu : P.underlying u = some (.array 7 e)) (he : P.underlying e = some .bool) (hce : P.cellsOf e = 1) (hcu : P.cellsOf u = 7)
    (h : DataW.trod enc P w base sp held fuel t cs = some (tbD L, p)) : ∀ i j r b, i < 7 → j < 7 → L[i]? = some r → r[j]? = some b → cs[i * 7 + j]? = some (.bool b) := by
  obtain ⟨xs, m, rfl, hx, hl, hn, hel⟩ := DataW.trod_array ht h
  intro i j r b hi hj hr hb
  have h1 := hel i hi
  rw [hcu] at h1
  have hxi : xs[i]? = some (xs[i]'(by omega)) := List.getElem?_eq_getElem _
  rw [hxi] at h1
  have hd := congrArg Prod.fst hx
  unfold tbD at hd
  simp only [DataW.agg.injEq] at hd
  have h2 : (L.map fun r => (.agg (r.map fun b => .lit (.bool b)) : DataW H))[i]? = some (xs[i]'(by omega)).1 := by rw [hd, List.getElem?_map, hxi]; rfl
  rw [List.getElem?_map, hr] at h2
  simp only [Option.map_some, Option.some.injEq] at h2
  have h3 : DataW.trod enc P w base sp held m u ((cs.drop (i * 7)).take 7) = some (.agg (r.map fun b => .lit (.bool b)), (xs[i]'(by omega)).2) := by rw [h1, ← Prod.eta (xs[i]'(by omega)), ← h2]
  have h4 := row_bools hu he hce h3 j b hj hb
  rw [List.getElem?_take, if_pos hj, List.getElem?_drop] at h4
  exact h4
end

theorem gCov : Tryd.prog.globalNamed "hasp/modes.covers" = some 0 := by kernel_rfl
theorem tCov : (Tryd.prog.globals[0]?).map (·.type) = some 59 := by kernel_rfl
theorem cBool : Tryd.prog.cellsOf 4 = 1 := by kernel_rfl
theorem cRow7 : Tryd.prog.cellsOf 58 = 7 := by kernel_rfl
theorem laid_eq : ([("hasp/modes.covers", Rows.laid_hasp_modes_covers)] : List (String × DataW Unit)) = [("hasp/modes.covers", tbD cvL)] := rfl
theorem tab_of {w : World} {name : String} {g : Nat} {cs : Array Value} {fuel : Nat} {L : List (List Bool)} {p : List MemPlace} (hg : Tryd.prog.globalNamed name = some g) (hv : w.var? Tryd.prog name = some cs) (h : DataW.trod (fun _ => ()) Tryd.prog w 0 (fun _ => true) false fuel 59 cs.toList = some (tbD L, p))
    (hL : ∀ i j, i < 7 → j < 7 → ∃ r, L[i]? = some r ∧ r[j]? = some (tb L i j)) : TabB w g L := by
  have h1 := tab_bools Tryd.underlying59 Tryd.underlying58 Tryd.underlying4 cBool cRow7 h
  have hc : ∀ i j, i < 7 → j < 7 → w.cell? ⟨g, i * 7 + j, none⟩ = some (.bool (tb L i j)) := by
    intro i j hi hj
    obtain ⟨r, hr, hb⟩ := hL i j hi hj
    have h2 := h1 i j r _ hi hj hr hb
    rw [World.var?_cell hg hv]
    rw [← Array.getElem?_toList]
    exact h2
  exact ⟨World.block_lt_of_cell? w _ (hc 0 0 (by decide) (by decide)), hc⟩
/-- what the row's condition gives -/
theorem tabs_of_laid {W : World} (h : laidMetH Tryd.prog [("hasp/modes.covers", Rows.laid_hasp_modes_covers)] W) : TabB W 0 cvL := by
  rw [laid_eq, MakeChecks.laidMetH_plain _ _ _ rfl] at h
  obtain ⟨ps, ⟨g1, t1, cs1, f1, p1, q1, hg1, ht1, hv1, hd1, _, _⟩, _, _⟩ := h
  obtain rfl := Option.some.inj (gCov.symm.trans hg1)
  obtain rfl := Option.some.inj (tCov.symm.trans ht1)
  have hall : ∀ L : List (List Bool), L.length = 7 → (∀ r ∈ L, r.length = 7) → ∀ i j, i < 7 → j < 7 → ∃ r, L[i]? = some r ∧ r[j]? = some (tb L i j) := by
    intro L hl hr i j hi hj
    have h1 : L[i]? = some (L[i]'(by omega)) := List.getElem?_eq_getElem _
    have h2 := hr _ (List.mem_of_getElem? h1)
    refine ⟨_, h1, ?_⟩
    unfold tb
    have e : L.getD i [] = L[i]'(by omega) := by rw [List.getD_eq_getElem?_getD, h1]; rfl
    rw [e, List.getD_eq_getElem?_getD, List.getElem?_eq_getElem (by omega)]
    rfl
  exact tab_of gCov hv1 hd1 (hall cvL rfl (by decide))

end Go.Proofs.YtgndbhgpdcelpaaDoor
