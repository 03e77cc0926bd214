/-
  Texts of mine put together, in build order.
  Conditions: as each declaration says.
-/
import Derived.Deep.Slices
import Derived.Deep.Fields
import Derived.Deep.Strs
import Derived.Lib.SmallJoins
import Derived.Deep.QuietTactic
import Derived.Deep.DeepCutAuto
import Derived.Deep.WholeRow
import Derived.Great.Walk
import Derived.Great.BuildSlice
import Derived.Deep.RegionHeld3
import Derived.Test.YtkffomfbnbcgaaaGreatDoorZp11
namespace Go.Proofs.YtkffomfbnbcgaaaGreatDoor
set_option maxRecDepth 100000
open Go.RowKit Go.Joins Go.ChangeShapes Go.WideShapes
set_option linter.unusedVariables false
set_option linter.unusedSimpArgs false

theorem oe_one {H : Type} (d : DataW H) : 1 ≤ Rows.uptoBulk d := by
  cases d with
  | lit l => cases l <;> simp [Rows.uptoBulk]
  | _ => simp [Rows.uptoBulk]
theorem oe_mem {H : Type} {d : DataW H} : ∀ {l : List (DataW H)}, d ∈ l → Rows.uptoBulk d ≤ Rows.uptoBulkAll l
  | [], h => by cases h
  | x :: r, h => by
    unfold Rows.uptoBulkAll
    rcases List.mem_cons.1 h with rfl | h
    · omega
    · have := oe_mem h; omega
theorem oe_all {H : Type} {l : List (DataW H)} (hk : Rows.uptoSmall H l = true) : Rows.uptoBulkAll l ≤ 1048576 := of_decide_eq_true hk
theorem oe_arg {H : Type} {l : List (DataW H)} (hk : Rows.uptoSmall H l = true) {d : DataW H} (h : d ∈ l) : Rows.uptoBulk d ≤ 1048576 := Nat.le_trans (oe_mem h) (oe_all hk)
mutual
/-- how great an expression is -/
def szE : Ex → Nat
  | .mk _ _ _ _ text qual args => 1 + text.size + qual.size + szL args
def szL : List Ex → Nat
  | [] => 0
  | a :: r => szE a + szL r
end
theorem dep_sz : ∀ (n : Nat) (e : Ex), szE e ≤ n → depR e < szE e
  | 0, .mk _ _ _ _ _ _ _, h => by rw [szE] at h; omega
  | n + 1, .mk op kind num scale text qual args, h => by
    rw [szE] at h ⊢
    rw [depR]
    have hl : ∀ l : List Ex, szL l ≤ n → depL l ≤ szL l := by
      intro l
      induction l with
      | nil => intro _; simp [depL, szL]
      | cons a r ih =>
        intro hr
        rw [szL] at hr
        rw [depL, szL]
        have h1 := dep_sz n a (by omega)
        have h2 := ih (by omega)
        omega
    have := hl args (by omega)
    omega
mutual
/-- its numbers are of 64 bits -/
def XE.Wd : XE → Prop
  | .mk op kind num scale _ _ _ _ args => ((Lit.int .i64 op).wf = true ∧ (Lit.int .i64 kind).wf = true ∧ (Lit.int .i64 num).wf = true ∧ (Lit.int .i64 scale).wf = true) ∧ XE.WdL args
def XE.WdL : List XE → Prop
  | [] => True
  | x :: r => XE.Wd x ∧ XE.WdL r
end
theorem XE.wdL_iff : ∀ {l : List XE}, XE.WdL l ↔ ∀ x ∈ l, XE.Wd x
  | [] => by simp [XE.WdL]
  | x :: r => by simp [XE.WdL, XE.wdL_iff (l := r)]
theorem cells_ex : Tryz.prog.cellsOf 30 = 7 := by kernel_rfl
theorem cells_ei : Tryz.prog.cellsOf 3 = 1 := by kernel_rfl
theorem cells_ej : Tryz.prog.cellsOf 2 = 1 := by kernel_rfl
theorem cells_es : Tryz.prog.cellsOf 9 = 1 := by kernel_rfl
theorem cells_el : Tryz.prog.cellsOf 28 = 1 := by kernel_rfl
section
variable {H : Type} {enc : TypeId × Value → H} {P : Program} {w : World} {base : Nat} {spare : Nat → Bool} {held : Bool}
theorem trod_struct7 {t : TypeId} {f0 f1 f2 f3 f4 f5 f6 : Field} {fuel : Nat} {cs : List Value} {x : DataW H × List MemPlace} (ht : P.underlying t = some (.struct #[f0, f1, f2, f3, f4, f5, f6])) (h : DataW.trod enc P w base spare held fuel t cs = some x) :
    ∃ y0 y1 y2 y3 y4 y5 y6 n, x.1 = .agg [y0.1, y1.1, y2.1, y3.1, y4.1, y5.1, y6.1] ∧ cs.length = P.cellsOf t ∧ DataW.trod enc P w base spare held n f0.type ((cs.drop f0.offset).take (P.cellsOf f0.type)) = some y0 ∧
      DataW.trod enc P w base spare held n f1.type ((cs.drop f1.offset).take (P.cellsOf f1.type)) = some y1 ∧ DataW.trod enc P w base spare held n f2.type ((cs.drop f2.offset).take (P.cellsOf f2.type)) = some y2 ∧
      DataW.trod enc P w base spare held n f3.type ((cs.drop f3.offset).take (P.cellsOf f3.type)) = some y3 ∧ DataW.trod enc P w base spare held n f4.type ((cs.drop f4.offset).take (P.cellsOf f4.type)) = some y4 ∧
      DataW.trod enc P w base spare held n f5.type ((cs.drop f5.offset).take (P.cellsOf f5.type)) = some y5 ∧ DataW.trod enc P w base spare held n f6.type ((cs.drop f6.offset).take (P.cellsOf f6.type)) = some y6 := by
  obtain ⟨xs, n, _, rfl, hl, hlen, hf⟩ := DataW.trod_struct ht h
  match xs, hlen with
  | [y0, y1, y2, y3, y4, y5, y6], _ => exact ⟨y0, y1, y2, y3, y4, y5, y6, n, by simp, hl, by simpa using hf 0 f0 rfl, by simpa using hf 1 f1 rfl, by simpa using hf 2 f2 rfl, by simpa using hf 3 f3 rfl, by simpa using hf 4 f4 rfl, by simpa using hf 5 f5 rfl, by simpa using hf 6 f6 rfl⟩
end
theorem list7 {α : Type} {l : List α} (h : l.length = 7) : ∃ a b c d e f g, l = [a, b, c, d, e, f, g] := by
  match l, h with
  | [a, b, c, d, e, f, g], _ => exact ⟨a, b, c, d, e, f, g, rfl⟩
/-- cells that read as an expression -/
theorem open_exc {H : Type} {enc : TypeId × Value → H} {W : World} {base : Nat} : ∀ (N : Nat) {fuel : Nat} {cs : List Value} {y : DataW H × List MemPlace}, Rows.uptoBulk y.1 ≤ N →
    DataW.trod enc Tryz.prog W base (fun _ => true) true fuel 30 cs = some y → ∃ x : XE, cs = x.enc ∧ XE.Mem (fun k => base ≤ k) W x ∧ XE.Wd x ∧ szE x.er ≤ Rows.uptoBulk y.1
  | 0, fuel, cs, y, hb, h => by have := oe_one y.1; omega
  | N + 1, fuel, cs, y, hb, h => by
    obtain ⟨y0, y1, y2, y3, y4, y5, y6, n, hy, hlen, g0, g1, g2, g3, g4, g5, g6⟩ := trod_struct7 Tryz.underlying30 h
    rw [cells_ex] at hlen
    obtain ⟨q0, q1, q2, q3, q4, q5, q6, rfl⟩ := list7 hlen
    obtain ⟨k0, e0, f0, w0⟩ := DataW.trod_int Tryz.underlying3 g0
    obtain ⟨k2, e2, f2, w2⟩ := DataW.trod_int Tryz.underlying3 g2
    obtain ⟨k3, e3, f3, w3⟩ := DataW.trod_int Tryz.underlying2 g3
    obtain ⟨k4, e4, f4, w4⟩ := DataW.trod_int Tryz.underlying3 g4
    obtain ⟨s5, e5, f5, w5⟩ := DataW.trod_string Tryz.underlying9 g5
    obtain ⟨s6, e6, f6, w6⟩ := DataW.trod_string Tryz.underlying9 g6
    simp only [cells_ei, cells_ej, cells_es] at e0 e2 e3 e4 e5 e6
    simp at e0 e2 e3 e4 e5 e6
    subst e0 e2 e3 e4 e5 e6
    rw [hy] at hb ⊢
    simp only [cells_el] at g1
    simp at g1
    have hs5 : 1 + s5.size ≤ Rows.uptoBulk y5.1 := by
      rw [f5]
      simp only [Rows.uptoBulk]
      have : s5.data.toList.length = s5.size := rfl
      omega
    have hs6 : 1 + s6.size ≤ Rows.uptoBulk y6.1 := by
      rw [f6]
      simp only [Rows.uptoBulk]
      have : s6.data.toList.length = s6.size := rfl
      omega
    have hsum : Rows.uptoBulk (.agg [y0.1, y1.1, y2.1, y3.1, y4.1, y5.1, y6.1] : DataW H) = Rows.uptoBulk y0.1 + (Rows.uptoBulk y1.1 + (Rows.uptoBulk y2.1 + (Rows.uptoBulk y3.1 + (Rows.uptoBulk y4.1 + (Rows.uptoBulk y5.1 + Rows.uptoBulk y6.1))))) + 1 ∨ Rows.uptoBulk (.agg [y0.1, y1.1, y2.1, y3.1, y4.1, y5.1, y6.1] : DataW H) = Rows.uptoBulk y0.1 + (Rows.uptoBulk y1.1 + (Rows.uptoBulk y2.1 + (Rows.uptoBulk y3.1 + (Rows.uptoBulk y4.1 + (Rows.uptoBulk y5.1 + Rows.uptoBulk y6.1))))) := by
      simp only [Rows.uptoBulk, Rows.uptoBulkAll]
      omega
    have hp0 := oe_one y0.1
    rcases Go.Deep.open_slice Tryz.underlying28 g1 with ⟨hcs, hx⟩ | ⟨a', len', cap', m, n', D, Pl, hcs, hbb, hl, hm, hmm, hx, hi⟩
    · simp at hcs
      subst hcs
      refine ⟨.mk k0 k2 k3 k4 s5 s6 none 0 [], rfl, XE.Mem.leaf _ _ _ _ _ _ _ _, ?_, ?_⟩
      · unfold XE.Wd
        exact ⟨⟨w0, w2, w3, w4⟩, by simp [XE.WdL]⟩
      · rw [XE.er, szE, XE.erL, szL]
        omega
    · simp at hcs
      subst hcs
      simp only [if_true] at hmm
      subst hmm
      rw [cells_ex] at hi
      have hy1 : y1.1 = .slice ((List.range len').map D) ((List.range (m - len')).map fun j => D (len' + j)) := by rw [hx]
      have hbs : Rows.uptoBulkAll ((List.range len').map D) + 1 ≤ Rows.uptoBulk y1.1 := by
        rw [hy1]
        simp only [Rows.uptoBulk]
        omega
      have hk : ∀ i, ∃ x : XE, i < len' → (∀ j u, x.enc[j]? = some u → W.cell? ((a'.add (i * 7)).add j) = some u) ∧ XE.Mem (fun k => base ≤ k) W x ∧ XE.Wd x ∧ szE x.er ≤ Rows.uptoBulk (D i) := by
        intro i
        by_cases hil : i < len'
        · obtain ⟨cs', hc, ht⟩ := hi i (by omega)
          have hmem : Rows.uptoBulk (D i) ≤ Rows.uptoBulkAll ((List.range len').map D) := oe_mem (List.mem_map.2 ⟨i, List.mem_range.2 hil, rfl⟩)
          obtain ⟨x, rfl, hm, hw, hz⟩ := open_exc N (by show Rows.uptoBulk (D i) ≤ N; omega) ht
          obtain ⟨_, hcl, hat⟩ := World.cells?_some hc
          refine ⟨x, fun _ => ⟨fun j u hj => ?_, hm, hw, hz⟩⟩
          have hj7 : j < 7 := by rw [← XE.enc_len x]; exact (List.getElem?_eq_some_iff.1 hj).1
          rw [hat j hj7]
          exact hj
        · exact ⟨.mk 0 0 0 0 ⟨#[]⟩ ⟨#[]⟩ none 0 [], fun h => absurd h hil⟩
      obtain ⟨f, hfz⟩ := Classical.axiomOfChoice hk
      obtain ⟨l, hl0⟩ : ∃ l, (List.range len').map f = l := ⟨_, rfl⟩
      have hll : l.length = len' := by rw [← hl0]; simp
      have hat : ∀ i x, l[i]? = some x → i < len' ∧ f i = x := fun i x hx => by
        have hil : i < len' := by rw [← hll]; exact (List.getElem?_eq_some_iff.1 hx).1
        rw [← hl0, List.getElem?_map, List.getElem?_range hil] at hx
        exact ⟨hil, by simpa using hx⟩
      have hmemL : XE.MemL (fun k => base ≤ k) W l := XE.memL_iff.2 fun x hx => by
        obtain ⟨i, hi'⟩ := List.getElem?_of_mem hx
        obtain ⟨h1, h2⟩ := hat i x hi'
        rw [← h2]; exact (hfz i h1).2.1
      have hwdL : XE.WdL l := XE.wdL_iff.2 fun x hx => by
        obtain ⟨i, hi'⟩ := List.getElem?_of_mem hx
        obtain ⟨h1, h2⟩ := hat i x hi'
        rw [← h2]; exact (hfz i h1).2.2.1
      have hszL : szL (XE.erL l) ≤ Rows.uptoBulkAll ((List.range len').map D) := by
        rw [← hl0]
        have key : ∀ r : List Nat, (∀ i ∈ r, i < len') → szL (XE.erL (r.map f)) ≤ Rows.uptoBulkAll (r.map D) := by
          intro r
          induction r with
          | nil => intro _; simp [XE.erL, szL]
          | cons i r ih =>
            intro hr
            rw [List.map_cons, List.map_cons, XE.erL, szL]
            unfold Rows.uptoBulkAll
            have h1 := (hfz i (hr i (List.mem_cons_self ..))).2.2.2
            have h2 := ih fun j hj => hr j (List.mem_cons_of_mem _ hj)
            omega
        exact key _ fun i hi => List.mem_range.1 hi
      by_cases h0 : len' = 0
      · have hnil : l = [] := List.eq_nil_of_length_eq_zero (by rw [hll, h0])
        refine ⟨.mk k0 k2 k3 k4 s5 s6 (some a') m l, by rw [XE.enc, hll], ?_, ?_, ?_⟩
        · unfold XE.Mem
          exact ⟨by omega, hm, .inl hnil, hmemL⟩
        · unfold XE.Wd
          exact ⟨⟨w0, w2, w3, w4⟩, hwdL⟩
        · rw [XE.er, szE]
          omega
      · have hsp : a'.spot = none := by
          obtain ⟨x0, hx0⟩ : ∃ x, f 0 = x := ⟨_, rfl⟩
          have c := (hfz 0 (by omega)).1 0 _ (List.getElem?_eq_getElem (by rw [XE.enc_len]; decide))
          have c2 := World.cell?_spot c
          simpa [Addr.add] using c2
        obtain ⟨b, off, spot⟩ := a'
        simp only at hsp
        subst hsp
        have ea : ∀ j, (⟨b, off, none⟩ : Addr).add j = ⟨b, off + j, none⟩ := by intro j; unfold Addr.add; split <;> simp_all
        have eb : ∀ j k, ((⟨b, off, none⟩ : Addr).add j).add k = ⟨b, off + j + k, none⟩ := by intro j k; rw [Go.Deep.add_add, ea, Nat.add_assoc]
        have hlt : b < W.heap.size := by
          have c := (hfz 0 (by omega)).1 0 _ (List.getElem?_eq_getElem (by rw [XE.enc_len]; decide))
          rw [eb] at c
          exact World.block_lt_of_cell? W _ c
        refine ⟨.mk k0 k2 k3 k4 s5 s6 (some ⟨b, off, none⟩) m l, by rw [XE.enc, hll], ?_, ?_, ?_⟩
        · unfold XE.Mem
          refine ⟨by omega, hm, .inr ⟨b, off, rfl, hbb, hlt, fun j u hj => ?_⟩, hmemL⟩
          have hjl : j < l.length * 7 := by
            have h1 := (List.getElem?_eq_some_iff.1 hj).1
            have h2 := RK.cells_length xk l
            have h3 : (XE.encL l).length = l.length * 7 := h2
            omega
          have hq : j / 7 < l.length := by omega
          have hx : l[j / 7]? = some (l[j / 7]'hq) := List.getElem?_eq_getElem hq
          have hr := RK.cells_at xk l (j / 7) (j % 7) _ hx (Nat.mod_lt _ (by decide))
          have hr' : (XE.encL l)[j / 7 * 7 + j % 7]? = (XE.enc (l[j / 7]'hq))[j % 7]? := hr
          rw [show j / 7 * 7 + j % 7 = j by omega, hj] at hr'
          obtain ⟨h1, h2⟩ := hat _ _ hx
          have c := (hfz (j / 7) h1).1 (j % 7) u (by rw [h2]; exact hr'.symm)
          rw [eb] at c
          rw [show off + j = off + j / 7 * 7 + j % 7 by omega]
          exact c
        · unfold XE.Wd
          exact ⟨⟨w0, w2, w3, w4⟩, hwdL⟩
        · rw [XE.er, szE]
          omega
/-- an expression that came in -/
theorem open_expr {H : Type} {enc : TypeId × Value → H} {W : World} {base b0 : Nat} {r : Reach} {v : Value} {d : DataW H} {p : List MemPlace}
    (o : Value.okWide Tryz.prog W r b0 30 v) (h : DataW.Trod enc Tryz.prog W base (fun _ => true) true 30 v d p) :
    ∃ x : XE, v = x.val ∧ XE.Mem (fun k => base ≤ k) W x ∧ XE.Wd x ∧ szE x.er ≤ Rows.uptoBulk d := by
  obtain ⟨cs, rfl, hsz⟩ := okWide_struct Tryz.underlying30 o
  obtain ⟨fuel, hf⟩ := h
  obtain ⟨x, hc, hm, hw, hz⟩ := open_exc _ (Nat.le_refl _) hf
  refine ⟨x, ?_, hm, hw, hz⟩
  have hc' : cs.toList = x.enc := by simpa [Value.cells] using hc
  rw [XE.val_eq, XE.encA_eq, ← hc']

end Go.Proofs.YtkffomfbnbcgaaaGreatDoor

namespace Go.Proofs.YtkffomfbnbcgaaaGreatDoor
set_option maxRecDepth 100000
open Go.RowKit Go.Joins Go.ChangeShapes Go.WideShapes
set_option linter.unusedVariables false
set_option linter.unusedSimpArgs false

/-! tokens that stand ahead of a separator -/
def spL (c : Nat) : Bool := c == 32 || c == 41 || c == 44 || c == 40
theorem sp_cases {e : Nat} (h : spL e = true) : e = 32 ∨ e = 41 ∨ e = 44 ∨ e = 40 := by
  unfold spL at h
  simp only [Bool.or_eq_true, beq_iff_eq] at h
  omega
theorem signL_sp {e : Nat} (he : spL e = true) (b l : List Nat) (h : signL l ≠ 0) : signL (l ++ e :: b) = signL l ∧ signL l ≤ l.length := by
  have he4 := sp_cases he
  match l with
  | [] => exact absurd rfl h
  | [c] =>
    unfold signL at h ⊢
    simp only [List.cons_append, List.nil_append] at h ⊢
    simp only [show ((c == 60 && e == 62) || (c == 60 && e == 61) || (c == 62 && e == 61) || (c == 124 && e == 124)) = false by rcases he4 with rfl | rfl | rfl | rfl <;> simp, Bool.false_eq_true, if_false] at h ⊢
    refine ⟨trivial, ?_⟩
    split <;> simp
  | c :: d :: r =>
    unfold signL
    simp only [List.cons_append]
    refine ⟨trivial, ?_⟩
    split
    · simp
    · split <;> simp

theorem cond_sp {e : Nat} (he : spL e = true) (b l : List Nat) : fracL (l ++ e :: b) = fracL (l) := by
  match l with
  | [] =>
    cases b with
    | nil => rfl
    | cons d q =>
      show (e == 46 && dgL d) = false
      rcases sp_cases he with rfl | rfl | rfl | rfl <;> rfl
  | [p] =>
    show (p == 46 && dgL e) = false
    rw [show dgL e = false by rcases sp_cases he with rfl | rfl | rfl | rfl <;> rfl, Bool.and_false]
  | p :: d :: r => rfl
theorem tokL_sp {e : Nat} (he : spL e = true) (b l : List Nat) (t : Tk) (k : Nat) (h : tokL l = .ok (t, k)) : tokL (l ++ e :: b) = .ok (t, k) ∧ k ≤ l.length ∧ 0 < k := by
  match l with
  | [] => simp [tokL] at h
  | c :: r =>
    have i32 : iwL e = false := by rcases sp_cases he with rfl | rfl | rfl | rfl <;> rfl
    have d32 : dgL e = false := by rcases sp_cases he with rfl | rfl | rfl | rfl <;> rfl
    have q32 : e ≠ 39 := by rcases sp_cases he with rfl | rfl | rfl | rfl <;> decide
    have happ : (c :: r) ++ e :: b = c :: (r ++ e :: b) := rfl
    have hrw := runL_app (f := iwL) i32 b (c :: r)
    have hrd := runL_app (f := dgL) d32 b (c :: r)
    obtain ⟨w1, w2⟩ := runL_take (f := iwL) (c :: r) b i32
    obtain ⟨g1, g2⟩ := runL_take (f := dgL) (c :: r) b d32
    have hle := runL_le iwL (c :: r)
    have hld := runL_le dgL (c :: r)
    rw [happ] at hrw hrd w1 w2 g1 g2 ⊢
    rw [tokL_cons] at h ⊢
    rw [tokC_eq] at h ⊢
    by_cases c1 : bwL c = true
    · rw [if_pos c1] at h ⊢
      rw [hrw, w1]
      have hp : 0 < runL iwL (c :: r) := by rw [runL_cons, if_pos (by unfold iwL; rw [c1]; rfl)]; omega
      split at h
      · cases h
      · next q =>
        rw [if_neg q]
        injection h with h
        injection h with h1 h2
        subst h1 h2
        exact ⟨rfl, hle, hp⟩
    · rw [if_neg c1] at h ⊢
      by_cases c2 : dgL c = true
      · rw [if_pos c2] at h ⊢
        have hp : 0 < runL dgL (c :: r) := by rw [runL_cons, if_pos c2]; omega
        rw [hrd, g1, g2, cond_sp he]
        have hk2 : fracL ((c :: r).drop (runL dgL (c :: r))) = true → (c :: (r ++ e :: b)).drop (runL dgL (c :: r) + 1) = (c :: r).drop (runL dgL (c :: r) + 1) ++ e :: b ∧ runL dgL (c :: r) + 1 ≤ (c :: r).length := by
          intro hq
          have hl : runL dgL (c :: r) + 1 ≤ (c :: r).length := by
            cases ee : (c :: r).drop (runL dgL (c :: r)) with
            | nil => rw [ee] at hq; cases hq
            | cons p q =>
              have := congrArg List.length ee
              rw [List.length_drop] at this
              simp only [List.length_cons] at this ⊢
              omega
          exact ⟨drop_app (c :: r) (e :: b) _ hl, hl⟩
        generalize fracL ((c :: r).drop (runL dgL (c :: r))) = cnd at h hk2 ⊢
        cases cnd with
        | true =>
          obtain ⟨e1, e2⟩ := hk2 rfl
          rw [if_pos rfl] at h ⊢
          rw [e1]
          have hr2 := runL_app (f := dgL) d32 b ((c :: r).drop (runL dgL (c :: r) + 1))
          have hl2 := runL_le dgL ((c :: r).drop (runL dgL (c :: r) + 1))
          rw [hr2, take_app _ _ _ hl2]
          split at h
          · cases h
          · next q =>
            rw [if_neg q]
            injection h with h
            injection h with h1 h2
            subst h1 h2
            refine ⟨rfl, ?_, by omega⟩
            rw [List.length_drop] at hl2
            omega
        | false =>
          rw [if_neg (by decide)] at h ⊢
          split at h
          · cases h
          · next q =>
            rw [if_neg q]
            injection h with h
            injection h with h1 h2
            subst h1 h2
            exact ⟨rfl, hld, hp⟩
      · rw [if_neg c2] at h ⊢
        by_cases c3 : c = 39
        · rw [if_pos c3] at h ⊢
          cases hx : textL r with
          | none => rw [hx] at h; cases h
          | some x =>
            obtain ⟨t1, t2⟩ := textL_app q32 b r x hx
            rw [hx] at h
            rw [t1]
            simp only at h ⊢
            split at h
            · cases h
            · next q =>
              rw [if_neg q]
              injection h with h
              injection h with h1 h2
              subst h1 h2
              exact ⟨rfl, by simp; omega, by omega⟩
        · rw [if_neg c3] at h ⊢
          by_cases c4 : signL (c :: r) = 0
          · rw [if_pos c4] at h; cases h
          · rw [if_neg c4] at h
            obtain ⟨s1, s2⟩ := signL_sp he b (c :: r) c4
            rw [happ] at s1
            rw [s1, if_neg c4, ← happ, take_app _ _ _ s2]
            injection h with h
            injection h with h1 h2
            subst h1 h2
            exact ⟨rfl, s2, by omega⟩


/-- what may stand behind an expression: nothing, a blank, a closing parenthesis, a comma -/
def sepR (r : List Nat) : Prop := r = [] ∨ ∃ e s, r = e :: s ∧ spL e = true
theorem good_head {t : Tk} (h : GoodT t) : ∃ c r, wordT t = c :: r ∧ blL c = false := by
  unfold GoodT at h
  cases hw : wordT t with
  | nil => rw [hw] at h; cases h
  | cons c r =>
    refine ⟨c, r, rfl, ?_⟩
    cases hb : blL c with
    | false => rfl
    | true =>
      exfalso
      rw [hw, tokL_cons] at h
      have : tokC c r (c :: r) = .error 120 := by
        unfold tokC
        have hs : signL (c :: r) = 0 := by
          rcases blk_cases hb with rfl | rfl | rfl | rfl <;> (cases r <;> rfl)
        rw [hs]
        rcases blk_cases hb with rfl | rfl | rfl | rfl <;> rfl
      rw [this] at h
      cases h
/-- a token that is written, ahead of a separator -/
theorem lex_good {t : Tk} (h : GoodT t) {r : List Nat} (hr : sepR r) : lexL (wordT t ++ r) = preT [t] (lexL r) := by
  obtain ⟨c, s, hw, hb⟩ := good_head h
  have ht : tokL (wordT t ++ r) = .ok (t, (wordT t).length) := by
    rcases hr with rfl | ⟨e, r', rfl, he⟩
    · rw [List.append_nil]; exact h
    · exact (tokL_sp he r' _ _ _ h).1
  rw [hw] at ht ⊢
  rw [List.cons_append] at ht ⊢
  rw [lexL_ok c _ hb t _ ht, ← List.cons_append, List.drop_append, List.drop_length, Nat.sub_self]
  rfl
/-- a word, ahead of what is in no word -/
theorem lex_word {c : Nat} {s : List Nat} (hb : bwL c = true) (hs : ∀ x ∈ s, iwL x = true) (hl : (c :: s).length ≤ 32) {r : List Nat} (hr : ∀ e q, r = e :: q → iwL e = false) :
    lexL (c :: s ++ r) = preT [⟨1, (c :: s).map lowL, 0, 0⟩] (lexL r) := by
  have hall : ∀ x ∈ c :: s, iwL x = true := fun x hx => by
    rcases List.mem_cons.1 hx with e | e
    · rw [e]; unfold iwL; rw [hb]; rfl
    · exact hs x e
  have hrun : runL iwL (c :: s ++ r) = (c :: s).length := by
    cases r with
    | nil => rw [List.append_nil]; exact runL_all1 _ hall
    | cons e q => exact runL_stop (hr e q rfl) q _ hall
  have hbl : blL c = false := by
    cases h : blL c with
    | false => rfl
    | true => rcases blk_cases h with rfl | rfl | rfl | rfl <;> cases hb
  have ht : tokL (c :: (s ++ r)) = .ok (⟨1, (c :: s).map lowL, 0, 0⟩, (c :: s).length) := by
    rw [tokL_cons]
    unfold tokC
    rw [← List.cons_append, hrun, if_pos hb, if_neg (by omega), List.take_append, List.take_length, Nat.sub_self, List.take_zero, List.append_nil]
  rw [List.cons_append, lexL_ok c _ hbl _ _ ht, ← List.cons_append, List.drop_append, List.drop_length, Nat.sub_self]
  rfl
theorem sgn_free (c : Nat) (hc : c = 40 ∨ c = 41 ∨ c = 44 ∨ c = 46 ∨ c = 42) (r : List Nat) : lexL (c :: r) = preT [⟨5, [c], 0, 0⟩] (lexL r) := by
  have hs : signL (c :: r) = 1 := by
    rcases hc with rfl | rfl | rfl | rfl | rfl <;> (cases r <;> rfl)
  have ht : tokL (c :: r) = .ok (⟨5, [c], 0, 0⟩, 1) := by
    rw [tokL_cons]
    unfold tokC
    rw [hs]
    rcases hc with rfl | rfl | rfl | rfl | rfl <;> rfl
  have hb : blL c = false := by rcases hc with rfl | rfl | rfl | rfl | rfl <;> rfl
  rw [lexL_ok c r hb _ _ ht]
  rfl
/-- a sign of an operator that stands ahead of a blank -/
theorem sgn_blank {w : List Nat} (h : GoodT ⟨5, w, 0, 0⟩) (r : List Nat) : lexL (w ++ 32 :: r) = preT [⟨5, w, 0, 0⟩] (lexL r) := by
  have := lex_good h (r := 32 :: r) (.inr ⟨32, r, rfl, rfl⟩)
  rw [lexL_blank 32 r rfl] at this
  exact this

end Go.Proofs.YtkffomfbnbcgaaaGreatDoor

namespace Go.Proofs.YtkffomfbnbcgaaaGreatDoor
set_option maxRecDepth 100000
open Go.RowKit Go.Joins Go.ChangeShapes Go.WideShapes
set_option linter.unusedVariables false
set_option linter.unusedSimpArgs false

/-! the form of an expression -/
def eb : ByteArray := ⟨#[]⟩
/-- the sign or word of an operator with two operands, as it is written -/
def sgN : Nat → List Nat
  | 1 => [61] | 2 => [60, 62] | 3 => [60] | 4 => [60, 61] | 5 => [62] | 6 => [62, 61] | 7 => [43] | 8 => [45] | 9 => [42] | 10 => [47] | 11 => [37] | 12 => [124, 124] | 17 => [65, 78, 68] | 18 => [79, 82] | _ => []
/-- its token -/
def sgT : Nat → Tk
  | 17 => ⟨1, wAnd, 0, 0⟩
  | 18 => ⟨1, wOr, 0, 0⟩
  | n => ⟨5, sgN n, 0, 0⟩
def twoL : List Nat := [1, 2, 3, 4, 5, 6, 7, 8, 9, 10, 11, 12, 17, 18]
def oneL : List Nat := [13, 14, 15, 16, 19, 20]
def aheadN : Nat → List Nat
  | 13 => [40, 45, 32] | 14 => [73, 78, 84, 40] | 15 => [82, 69, 65, 76, 40] | 16 => [40, 78, 79, 84, 32] | 19 => [40] | 20 => [40] | _ => []
def behindN : Nat → List Nat
  | 13 => [41] | 14 => [41] | 15 => [41] | 16 => [41] | 19 => [32, 73, 83, 32, 78, 85, 76, 76, 41] | 20 => [32, 73, 83, 32, 78, 79, 84, 32, 78, 85, 76, 76, 41] | _ => []
def tOpen : Tk := ⟨5, [40], 0, 0⟩
def tShut : Tk := ⟨5, [41], 0, 0⟩
def tW (w : List Nat) : Tk := ⟨1, w, 0, 0⟩
def aheadT : Nat → List Tk
  | 13 => [tOpen, ⟨5, [45], 0, 0⟩] | 14 => [tW wInt, tOpen] | 15 => [tW wReal, tOpen] | 16 => [tOpen, tW wNot] | 19 => [tOpen] | 20 => [tOpen] | _ => []
def behindT : Nat → List Tk
  | 13 => [tShut] | 14 => [tShut] | 15 => [tShut] | 16 => [tShut] | 19 => [tW wIs, tW wNull, tShut] | 20 => [tW wIs, tW wNot, tW wNull, tShut] | _ => []
def upNull : List Nat := [78, 85, 76, 76]
def upTrue : List Nat := [84, 82, 85, 69]
def upFalse : List Nat := [70, 65, 76, 83, 69]
def upNan : List Nat := [78, 65, 78]
def upInf : List Nat := [73, 78, 70, 73, 78, 73, 84, 89]
/-- a constant's token; a column's tokens -/
def cstW (kind num scale : Int) (text : ByteArray) : List Nat :=
  if kind = 0 then upNull else if kind = 1 then (if num = 0 then upFalse else upTrue) else if kind = 3 ∧ scale = -1 then upNan else if kind = 3 ∧ scale = -2 then upInf
  else wordT ⟨kind.toNat, sl text, num.toNat, scale.toNat⟩
def cstT (kind num scale : Int) (text : ByteArray) : Tk :=
  if kind = 0 then tW wNull else if kind = 1 then (if num = 0 then tW wFalse else tW wTrue) else if kind = 3 ∧ scale = -1 then tW wNan else if kind = 3 ∧ scale = -2 then tW wInf
  else ⟨kind.toNat, sl text, num.toNat, scale.toNat⟩
def leafW (op kind num scale : Int) (text qual : ByteArray) : List Nat :=
  if op = 21 then cstW kind num scale text else if qual.size = 0 then sl text else sl qual ++ 46 :: sl text
def leafT (op kind num scale : Int) (text qual : ByteArray) : List Tk :=
  if op = 21 then [cstT kind num scale text] else if qual.size = 0 then [tW (sl text)] else [tW (sl qual), ⟨5, [46], 0, 0⟩, tW (sl text)]
mutual
/-- an expression's form -/
def textE : Ex → List Nat
  | .mk op kind num scale text qual args => textA op kind num scale text qual args
def textA (op kind num scale : Int) (text qual : ByteArray) : List Ex → List Nat
  | [] => leafW op kind num scale text qual
  | a :: r => textB op (textE a) r
def textB (op : Int) (x : List Nat) : List Ex → List Nat
  | [] => aheadN op.toNat ++ x ++ behindN op.toNat
  | b :: _ => 40 :: x ++ 32 :: sgN op.toNat ++ 32 :: textE b ++ [41]
end
mutual
def tokE : Ex → List Tk
  | .mk op kind num scale text qual args => tokA op kind num scale text qual args
def tokA (op kind num scale : Int) (text qual : ByteArray) : List Ex → List Tk
  | [] => leafT op kind num scale text qual
  | a :: r => tokB op (tokE a) r
def tokB (op : Int) (x : List Tk) : List Ex → List Tk
  | [] => aheadT op.toNat ++ x ++ behindT op.toNat
  | b :: _ => tOpen :: x ++ sgT op.toNat :: tokE b ++ [tShut]
end
theorem textE_one (op : Nat) (a : Ex) : textE (mk1 op a) = aheadN op ++ textE a ++ behindN op := by
  unfold mk1; rw [textE, textA, textB]; rfl
theorem textE_two (op : Nat) (a b : Ex) : textE (mk2 op a b) = 40 :: textE a ++ 32 :: sgN op ++ 32 :: textE b ++ [41] := by
  unfold mk2; rw [textE, textA, textB]; rfl
theorem tokE_one (op : Nat) (a : Ex) : tokE (mk1 op a) = aheadT op ++ tokE a ++ behindT op := by
  unfold mk1; rw [tokE, tokA, tokB]; rfl
theorem tokE_two (op : Nat) (a b : Ex) : tokE (mk2 op a b) = tOpen :: tokE a ++ sgT op :: tokE b ++ [tShut] := by
  unfold mk2; rw [tokE, tokA, tokB]; rfl
theorem toList_data (t : ByteArray) : t.toList = t.data.toList := ByteArray.toList_eq t
/-- a right expression -/
inductive RgE : Ex → Prop where
  | null : RgE (cst 0 0 0 ⟨#[]⟩)
  | no : RgE (cst 1 0 0 ⟨#[]⟩)
  | yes : RgE (cst 1 1 0 ⟨#[]⟩)
  | int (n : Nat) (h : n ≤ 9223372036854775807) : RgE (cst 2 n 0 ⟨#[]⟩)
  | nan : RgE (cst 3 0 (-1) ⟨#[]⟩)
  | inf : RgE (cst 3 0 (-2) ⟨#[]⟩)
  | real (n sc : Nat) (h : n < 1000000000000000) (h1 : 1 ≤ sc) (h2 : sc ≤ 14) : RgE (cst 3 n sc ⟨#[]⟩)
  | text (s : ByteArray) (h : s.size ≤ 200) : RgE (cst 4 0 0 s)
  | col (t : ByteArray) (h : nameB t = true) : RgE (.mk 22 0 0 0 t ⟨#[]⟩ [])
  | qual (t q : ByteArray) (h : nameB t = true) (hq : nameB q = true) : RgE (.mk 22 0 0 0 t q [])
  | one (op : Nat) (e : Ex) (ho : op ∈ oneL) (h : RgE e) : RgE (mk1 op e)
  | two (op : Nat) (a b : Ex) (ho : op ∈ twoL) (ha : RgE a) (hb : RgE b) : RgE (mk2 op a b)
theorem runL_whole {f : Nat → Bool} : ∀ l : List Nat, runL f l = l.length → ∀ x ∈ l, f x = true
  | [], _, x, hx => by cases hx
  | c :: r, h, x, hx => by
    rw [runL_cons] at h
    cases hc : f c with
    | false => rw [hc] at h; simp at h
    | true =>
      rw [hc, if_pos rfl, List.length_cons] at h
      rcases List.mem_cons.1 hx with e | e
      · rw [e]; exact hc
      · exact runL_whole r (by omega) x e
/-- the reserved words as numbers -/
def resN : List (List Nat) := resW.map fun l => l.map fun b => b.toNat
/-- a name's word: it begins one, it is small, short, and not reserved -/
theorem name_word {t : ByteArray} (h : nameB t = true) : ∃ c r, sl t = c :: r ∧ bwL c = true ∧ (∀ x ∈ r, iwL x = true) ∧ (c :: r).length ≤ 32 ∧ (c :: r).map lowL = c :: r ∧ sl t ∉ resN := by
  unfold nameB at h
  simp only [Bool.and_eq_true, decide_eq_true_eq, beq_iff_eq, Bool.not_eq_true'] at h
  obtain ⟨⟨⟨⟨h1, h2⟩, h3⟩, h4⟩, h5⟩ := h
  rw [← sl_length] at h1 h2 h5
  have hin := runL_whole (f := inL) (sl t) h5
  have hres : sl t ∉ resN := fun hm => by
    unfold resN at hm
    obtain ⟨w, hw, he⟩ := List.mem_map.1 hm
    have : resB t = true := by
      unfold resB
      refine List.any_eq_true.2 ⟨w, hw, ?_⟩
      have hh : t.data.toList = w := by
        unfold sl at he
        have h7 := congrArg (List.map UInt8.ofNat) he
        rw [List.map_map, List.map_map] at h7
        have hid : (UInt8.ofNat ∘ fun b : UInt8 => b.toNat) = id := funext fun b => UInt8.ofNat_toNat
        rw [hid, List.map_id, List.map_id] at h7
        exact h7.symm
      show (t.toList == w) = true
      rw [toList_data, hh]
      exact beq_self_eq_true _
    rw [this] at h4
    cases h4
  cases hs : sl t with
  | nil => rw [hs] at h1; cases h1
  | cons c r =>
    rw [hs] at h2 h3 hin hres
    refine ⟨c, r, rfl, h3, fun x hx => ?_, h2, ?_, hres⟩
    · have := hin x (List.mem_cons_of_mem _ hx)
      unfold inL at this
      simp only [Bool.and_eq_true] at this
      exact this.1
    · rw [List.map_congr_left (g := id) (fun x hx => ?_), List.map_id]
      have := hin x hx
      unfold inL at this
      simp only [Bool.and_eq_true, Bool.not_eq_true'] at this
      unfold lowL
      rw [this.2]
      rfl
theorem lex_name {t : ByteArray} (h : nameB t = true) {r : List Nat} (hr : ∀ e q, r = e :: q → iwL e = false) : lexL (sl t ++ r) = preT [tW (sl t)] (lexL r) := by
  obtain ⟨c, s, hs, hb, hi, hl, hm, -⟩ := name_word h
  rw [hs, lex_word hb hi hl hr, hm]
  rfl
theorem sep_iw {r : List Nat} (hr : sepR r) : ∀ e q, r = e :: q → iwL e = false := by
  rintro e q rfl
  rcases hr with h | ⟨e', s, h, he⟩
  · cases h
  · injection h with h1 h2
    subst h1
    rcases sp_cases he with rfl | rfl | rfl | rfl <;> rfl
theorem lex_up (w : List Nat) (v : List Nat) (c : Nat) (s : List Nat) (hw : w = c :: s) (hb : bwL c = true) (hi : ∀ x ∈ s, iwL x = true) (hl : w.length ≤ 32) (hv : w.map lowL = v) {r : List Nat} (hr : sepR r) : lexL (w ++ r) = preT [tW v] (lexL r) := by
  subst hw
  rw [lex_word hb hi hl (sep_iw hr), hv]
  rfl
theorem good_real' (n sc : Nat) (h : n < 1000000000000000) (h1 : 1 ≤ sc) (h2 : sc ≤ 14) : GoodT ⟨3, [], n, sc⟩ := by
  have hl := digL_len 14 n h
  have hp := digL_pos n
  have hd : decL (padL n sc) = n := by unfold padL; rw [decL_zeros, decL_digL]
  have hdg : ∀ x ∈ padL n sc, dgL x = true := by
    intro x hx
    unfold padL at hx
    rcases List.mem_append.1 hx with h | h
    · rw [List.eq_of_mem_replicate h]; rfl
    · exact digL_dg n x h
  have hle : sc + 1 ≤ (padL n sc).length ∧ (padL n sc).length ≤ 15 := by
    unfold padL
    rw [List.length_append, List.length_replicate]
    omega
  have hP : ((padL n sc).take ((padL n sc).length - sc)).length = (padL n sc).length - sc := by rw [List.length_take]; omega
  have hQ : ((padL n sc).drop ((padL n sc).length - sc)).length = sc := by rw [List.length_drop]; omega
  have := good_real ((padL n sc).take ((padL n sc).length - sc)) ((padL n sc).drop ((padL n sc).length - sc)) (fun x hx => hdg x (List.mem_of_mem_take hx)) (fun x hx => hdg x (List.mem_of_mem_drop hx)) (by omega) (by omega) (by omega)
  rw [List.take_append_drop, hd, hQ] at this
  exact this
theorem preT_app (ts us : List Tk) (x : Except Nat (List Tk)) : preT ts (preT us x) = preT (ts ++ us) x := preT_preT ts us x
theorem lexL_sp (r : List Nat) : lexL (32 :: r) = lexL r := lexL_blank 32 r rfl
/-- the tokens of an operator ahead of a blank -/
theorem lex_sg {op : Nat} (ho : op ∈ twoL) (r : List Nat) : lexL (sgN op ++ 32 :: r) = preT [sgT op] (lexL r) := by
  have hs : sepR (32 :: r) := .inr ⟨32, r, rfl, rfl⟩
  simp only [twoL, List.mem_cons, List.not_mem_nil, or_false] at ho
  have sg : ∀ w, GoodT ⟨5, w, 0, 0⟩ → lexL (w ++ 32 :: r) = preT [⟨5, w, 0, 0⟩] (lexL r) := fun w h => sgn_blank h r
  rcases ho with rfl | rfl | rfl | rfl | rfl | rfl | rfl | rfl | rfl | rfl | rfl | rfl | rfl | rfl
  · exact sg [61] rfl
  · exact sg [60, 62] rfl
  · exact sg [60] rfl
  · exact sg [60, 61] rfl
  · exact sg [62] rfl
  · exact sg [62, 61] rfl
  · exact sg [43] rfl
  · exact sg [45] rfl
  · exact sg [42] rfl
  · exact sg [47] rfl
  · exact sg [37] rfl
  · exact sg [124, 124] rfl
  · rw [show sgN 17 = [65, 78, 68] from rfl, lex_up [65, 78, 68] wAnd 65 [78, 68] rfl rfl (by decide) (by decide) (by decide) hs, lexL_sp]; rfl
  · rw [show sgN 18 = [79, 82] from rfl, lex_up [79, 82] wOr 79 [82] rfl rfl (by decide) (by decide) (by decide) hs, lexL_sp]; rfl
theorem lex_ahead {op : Nat} (ho : op ∈ oneL) (r : List Nat) : lexL (aheadN op ++ r) = preT (aheadT op) (lexL r) := by
  simp only [oneL, List.mem_cons, List.not_mem_nil, or_false] at ho
  rcases ho with rfl | rfl | rfl | rfl | rfl | rfl
  · show lexL (40 :: ([45] ++ 32 :: r)) = _
    rw [sgn_free 40 (by omega), sgn_blank (w := [45]) rfl, preT_app]; rfl
  · show lexL ([73, 78, 84] ++ 40 :: r) = _
    rw [lex_up [73, 78, 84] wInt 73 [78, 84] rfl rfl (by decide) (by decide) (by decide) (.inr ⟨40, r, rfl, rfl⟩), sgn_free 40 (by omega), preT_app]; rfl
  · show lexL ([82, 69, 65, 76] ++ 40 :: r) = _
    rw [lex_up [82, 69, 65, 76] wReal 82 [69, 65, 76] rfl rfl (by decide) (by decide) (by decide) (.inr ⟨40, r, rfl, rfl⟩), sgn_free 40 (by omega), preT_app]; rfl
  · show lexL (40 :: ([78, 79, 84] ++ 32 :: r)) = _
    rw [sgn_free 40 (by omega), lex_up [78, 79, 84] wNot 78 [79, 84] rfl rfl (by decide) (by decide) (by decide) (.inr ⟨32, r, rfl, rfl⟩), lexL_sp, preT_app]; rfl
  · exact sgn_free 40 (by omega) r
  · exact sgn_free 40 (by omega) r
theorem lex_behind {op : Nat} (ho : op ∈ oneL) (r : List Nat) : lexL (behindN op ++ r) = preT (behindT op) (lexL r) := by
  simp only [oneL, List.mem_cons, List.not_mem_nil, or_false] at ho
  have nl : ∀ r, lexL (upNull ++ 41 :: r) = preT [tW wNull, tShut] (lexL r) := fun r => by
    rw [lex_up upNull wNull 78 [85, 76, 76] rfl rfl (by decide) (by decide) (by decide) (.inr ⟨41, r, rfl, rfl⟩), sgn_free 41 (by omega), preT_app]; rfl
  have is : ∀ r, lexL (32 :: ([73, 83] ++ 32 :: r)) = preT [tW wIs] (lexL r) := fun r => by
    rw [lexL_sp, lex_up [73, 83] wIs 73 [83] rfl rfl (by decide) (by decide) (by decide) (.inr ⟨32, r, rfl, rfl⟩), lexL_sp]
  rcases ho with rfl | rfl | rfl | rfl | rfl | rfl
  · exact sgn_free 41 (by omega) r
  · exact sgn_free 41 (by omega) r
  · exact sgn_free 41 (by omega) r
  · exact sgn_free 41 (by omega) r
  · show lexL (32 :: ([73, 83] ++ 32 :: (upNull ++ 41 :: r))) = _
    rw [is, nl, preT_app]; rfl
  · show lexL (32 :: ([73, 83] ++ 32 :: ([78, 79, 84] ++ 32 :: (upNull ++ 41 :: r)))) = _
    rw [is, lex_up [78, 79, 84] wNot 78 [79, 84] rfl rfl (by decide) (by decide) (by decide) (.inr ⟨32, _, rfl, rfl⟩), lexL_sp, nl, preT_app, preT_app]; rfl
theorem behind_sep {op : Nat} (ho : op ∈ oneL) (r : List Nat) : sepR (behindN op ++ r) := by
  simp only [oneL, List.mem_cons, List.not_mem_nil, or_false] at ho
  rcases ho with rfl | rfl | rfl | rfl | rfl | rfl
  all_goals exact .inr ⟨_, _, rfl, rfl⟩
/-- the tokens of a right expression's form -/
theorem lex_form {e : Ex} (h : RgE e) : ∀ r, sepR r → lexL (textE e ++ r) = preT (tokE e) (lexL r) := by
  have c21 : ∀ (k n s : Int) (t : ByteArray), textE (cst k n s t) = cstW k n s t ∧ tokE (cst k n s t) = [cstT k n s t] := fun k n s t => by
    unfold cst
    rw [textE, textA, tokE, tokA]
    exact ⟨rfl, rfl⟩
  induction h with
  | null => intro r hr; rw [(c21 _ _ _ _).1, (c21 _ _ _ _).2]; exact lex_up upNull wNull 78 [85, 76, 76] rfl rfl (by decide) (by decide) (by decide) hr
  | no => intro r hr; rw [(c21 _ _ _ _).1, (c21 _ _ _ _).2]; exact lex_up upFalse wFalse 70 [65, 76, 83, 69] rfl rfl (by decide) (by decide) (by decide) hr
  | yes => intro r hr; rw [(c21 _ _ _ _).1, (c21 _ _ _ _).2]; exact lex_up upTrue wTrue 84 [82, 85, 69] rfl rfl (by decide) (by decide) (by decide) hr
  | nan => intro r hr; rw [(c21 _ _ _ _).1, (c21 _ _ _ _).2]; exact lex_up upNan wNan 78 [65, 78] rfl rfl (by decide) (by decide) (by decide) hr
  | inf => intro r hr; rw [(c21 _ _ _ _).1, (c21 _ _ _ _).2]; exact lex_up upInf wInf 73 [78, 70, 73, 78, 73, 84, 89] rfl rfl (by decide) (by decide) (by decide) hr
  | int n h =>
    intro r hr
    rw [(c21 _ _ _ _).1, (c21 _ _ _ _).2]
    exact lex_good (t := ⟨2, [], n, 0⟩) (good_int n h) hr
  | real n sc h h1 h2 =>
    intro r hr
    rw [(c21 _ _ _ _).1, (c21 _ _ _ _).2]
    have e1 : cstW 3 n sc ⟨#[]⟩ = wordT ⟨3, [], n, sc⟩ := by
      unfold cstW
      rw [if_neg (by decide), if_neg (by decide), if_neg (by omega), if_neg (by omega)]
      rfl
    have e2 : cstT 3 n sc ⟨#[]⟩ = ⟨3, [], n, sc⟩ := by
      unfold cstT
      rw [if_neg (by decide), if_neg (by decide), if_neg (by omega), if_neg (by omega)]
      rfl
    rw [e1, e2]
    exact lex_good (good_real' n sc h h1 h2) hr
  | text s h =>
    intro r hr
    rw [(c21 _ _ _ _).1, (c21 _ _ _ _).2]
    exact lex_good (t := ⟨4, sl s, 0, 0⟩) (good_text _ (by rw [sl_length]; omega)) hr
  | col t h =>
    intro r hr
    rw [textE, textA, tokE, tokA]
    exact lex_name h (sep_iw hr)
  | qual t q h hq =>
    intro r hr
    rw [textE, textA, tokE, tokA]
    have hq0 : ¬ q.size = 0 := fun e => by
      obtain ⟨c, s, hs, -⟩ := name_word hq
      have := sl_length q
      rw [hs, e] at this
      cases this
    unfold leafW leafT
    rw [if_neg (by decide), if_neg hq0, if_neg (by decide), if_neg hq0, List.append_assoc, List.cons_append, lex_name hq (fun e q h => by injection h with h1 h2; subst h1; rfl), sgn_free 46 (by omega), lex_name h (sep_iw hr), preT_app, preT_app]
    rfl
  | one op e ho h ih =>
    intro r hr
    rw [textE_one, tokE_one, List.append_assoc, List.append_assoc, lex_ahead ho, ih _ (behind_sep ho r), lex_behind ho, preT_app, preT_app]
  | two op a b ho ha hb iha ihb =>
    intro r hr
    have e1 : textE (mk2 op a b) ++ r = 40 :: (textE a ++ (32 :: (sgN op ++ (32 :: (textE b ++ (41 :: r)))))) := by
      rw [textE_two]; simp only [List.append_assoc, List.cons_append, List.nil_append]
    rw [e1, tokE_two, sgn_free 40 (by omega), iha _ (.inr ⟨32, _, rfl, rfl⟩), lexL_sp, lex_sg ho, ihb _ (.inr ⟨41, _, rfl, rfl⟩), sgn_free 41 (by omega), preT_app, preT_app, preT_app, preT_app]
    simp only [List.append_assoc, List.cons_append, List.nil_append]
    rfl

end Go.Proofs.YtkffomfbnbcgaaaGreatDoor

namespace Go.Proofs.YtkffomfbnbcgaaaGreatDoor
set_option maxRecDepth 100000
open Go.RowKit Go.Joins Go.ChangeShapes Go.WideShapes
set_option linter.unusedVariables false
set_option linter.unusedSimpArgs false

/-! the form of an expression is read as that expression -/
/-- reading at a level takes these tokens for this expression -/
def Rd7 (isName : List Nat → Bool) (lvl : Nat) (ts rest : List Tk) (opn deep : Nat) (e : Ex) : Prop := ∃ n, px isName n lvl ⟨ts ++ rest, opn, deep⟩ = some (.ok (e, ⟨rest, opn, deep⟩))
section
variable {isName : List Nat → Bool} {ts rest : List Tk} {opn deep : Nat} {e : Ex}
theorem rd_chain {lvl : Nat} (hl : lvl = 0 ∨ lvl = 1 ∨ lvl = 4 ∨ lvl = 5) (h : Rd7 isName (lvl + 1) ts rest opn deep e) (hs : whichP (opsP lvl) ⟨rest, opn, deep⟩ = none) : Rd7 isName lvl ts rest opn deep e := by
  obtain ⟨n, hn⟩ := h
  have hc : pc isName (n + 1) lvl e ⟨rest, opn, deep⟩ = some (.ok (e, ⟨rest, opn, deep⟩)) := by rw [pc, hs]; rfl
  have hn' := px_le isName (Nat.le_succ n) _ hn
  refine ⟨n + 1 + 1, ?_⟩
  rcases hl with rfl | rfl | rfl | rfl
  all_goals
    rw [px] <;> first | (rw [hn']; exact hc) | (intros; omega)
theorem rd_test (h : Rd7 isName 4 ts rest opn deep e) (h1 : atP wIs ⟨rest, opn, deep⟩ = false) (h2 : whichP (opsP 3) ⟨rest, opn, deep⟩ = none) : Rd7 isName 3 ts rest opn deep e := by
  obtain ⟨n, hn⟩ := h
  refine ⟨n + 1, ?_⟩
  rw [px, hn]
  show (if atP wIs ⟨rest, opn, deep⟩ = true then _ else _) = _
  rw [h1, if_neg (by decide), h2]
  rfl
theorem rd_not (h : Rd7 isName 3 ts rest opn deep e) (h1 : atP wNot ⟨ts ++ rest, opn, deep⟩ = false) : Rd7 isName 2 ts rest opn deep e := by
  obtain ⟨n, hn⟩ := h
  refine ⟨n + 1, ?_⟩
  rw [px, h1, if_neg (by decide), hn]
theorem rd_sign (h : Rd7 isName 7 ts rest opn deep e) (h1 : atP [45] ⟨ts ++ rest, opn, deep⟩ = false) : Rd7 isName 6 ts rest opn deep e := by
  obtain ⟨n, hn⟩ := h
  refine ⟨n + 1, ?_⟩
  rw [px, h1, if_neg (by decide), hn]
/-- what stands behind ends an expression of any level -/
def EndR (rest : List Tk) : Prop := ∀ opn deep, (∀ lvl, whichP (opsP lvl) ⟨rest, opn, deep⟩ = none) ∧ atP wIs ⟨rest, opn, deep⟩ = false ∧ atP [46] ⟨rest, opn, deep⟩ = false
/-- the first token is neither NOT nor a minus -/
def Fst (ts : List Tk) : Prop := ∃ t r, ts = t :: r ∧ (∀ q o d, atP wNot ⟨t :: q, o, d⟩ = false) ∧ ∀ q o d, atP [45] ⟨t :: q, o, d⟩ = false
theorem Fst.app {ts : List Tk} (h : Fst ts) (rest : List Tk) (o d : Nat) : atP wNot ⟨ts ++ rest, o, d⟩ = false ∧ atP [45] ⟨ts ++ rest, o, d⟩ = false := by
  obtain ⟨t, r, rfl, h1, h2⟩ := h
  exact ⟨h1 _ _ _, h2 _ _ _⟩
/-- from one level down to another one, where all ends -/
theorem rd_down (he : EndR rest) : ∀ (k lvl : Nat), lvl + k ≤ 7 → (lvl ≤ 6 ∧ 6 < lvl + k → atP [45] ⟨ts ++ rest, opn, deep⟩ = false) → (lvl ≤ 2 ∧ 2 < lvl + k → atP wNot ⟨ts ++ rest, opn, deep⟩ = false) → Rd7 isName (lvl + k) ts rest opn deep e → Rd7 isName lvl ts rest opn deep e
  | 0, lvl, _, _, _, h => h
  | k + 1, lvl, hl, h6, h2, h => by
    have h' : Rd7 isName (lvl + 1) ts rest opn deep e := rd_down he k (lvl + 1) (by omega) (fun ⟨a, b⟩ => h6 ⟨by omega, by omega⟩) (fun ⟨a, b⟩ => h2 ⟨by omega, by omega⟩) (by rw [show lvl + 1 + k = lvl + (k + 1) by omega]; exact h)
    by_cases c2 : lvl = 2
    · subst c2; exact rd_not h' (h2 ⟨by omega, by omega⟩)
    by_cases c6 : lvl = 6
    · subst c6; exact rd_sign h' (h6 ⟨by omega, by omega⟩)
    by_cases c3 : lvl = 3
    · subst c3; exact rd_test h' (he opn deep).2.1 ((he opn deep).1 3)
    exact rd_chain (by omega) h' ((he opn deep).1 lvl)
/-- down, where an operator of a lower level stands behind -/
theorem rd_to (hf : Fst ts) : ∀ (k lvl : Nat), lvl + k = 7 → 1 ≤ lvl → (∀ l, lvl ≤ l → whichP (opsP l) ⟨rest, opn, deep⟩ = none) → atP wIs ⟨rest, opn, deep⟩ = false → Rd7 isName 7 ts rest opn deep e → Rd7 isName lvl ts rest opn deep e
  | 0, lvl, hl, _, _, _, h => by
    have : lvl = 7 := by omega
    subst this; exact h
  | k + 1, lvl, hl, h1, hw, hi, h => by
    have h' : Rd7 isName (lvl + 1) ts rest opn deep e := rd_to hf k (lvl + 1) (by omega) (by omega) (fun l q => hw l (by omega)) hi h
    by_cases c2 : lvl = 2
    · subst c2; exact rd_not h' (hf.app _ _ _).1
    by_cases c6 : lvl = 6
    · subst c6; exact rd_sign h' (hf.app _ _ _).2
    by_cases c3 : lvl = 3
    · subst c3; exact rd_test h' hi (hw 3 (by omega))
    exact rd_chain (by omega) h' (hw lvl (by omega))
/-- an operator between two operands, at its own level -/
theorem rd_pair {us : List Tk} {f : Ex} {t : Tk} {op lvl : Nat} (hl : lvl = 0 ∨ lvl = 1 ∨ lvl = 4 ∨ lvl = 5) (h1 : Rd7 isName (lvl + 1) ts (t :: us ++ rest) opn deep e) (h2 : Rd7 isName (lvl + 1) us rest opn deep f)
    (hw : ∀ q, whichP (opsP lvl) ⟨t :: q, opn, deep⟩ = some op) (hs : whichP (opsP lvl) ⟨rest, opn, deep⟩ = none) : Rd7 isName lvl (ts ++ t :: us) rest opn deep (mk2 op e f) := by
  obtain ⟨n, hn⟩ := h1
  obtain ⟨m, hm⟩ := h2
  have hn' := px_le isName (show n ≤ n + m + 2 by omega) _ hn
  have hm' := px_le isName (show m ≤ n + m + 1 by omega) _ hm
  have hc : pc isName (n + m + 1) lvl (mk2 op e f) ⟨rest, opn, deep⟩ = some (.ok (mk2 op e f, ⟨rest, opn, deep⟩)) := by rw [pc, hs]; rfl
  have hc2 : pc isName (n + m + 2) lvl e ⟨t :: us ++ rest, opn, deep⟩ = some (.ok (mk2 op e f, ⟨rest, opn, deep⟩)) := by
    rw [pc, List.cons_append, hw]
    show bindR (px isName (n + m + 1) (lvl + 1) ⟨us ++ rest, opn, deep⟩) _ = _
    rw [hm']
    exact hc
  refine ⟨n + m + 2 + 1, ?_⟩
  rw [List.append_assoc]
  rcases hl with rfl | rfl | rfl | rfl
  all_goals
    rw [px] <;> first | (rw [hn']; exact hc2) | (intros; omega)
theorem rd_cmp {us : List Tk} {f : Ex} {t : Tk} {op : Nat} (h1 : Rd7 isName 4 ts (t :: us ++ rest) opn deep e) (h2 : Rd7 isName 4 us rest opn deep f)
    (hi : ∀ q, atP wIs ⟨t :: q, opn, deep⟩ = false) (hw : ∀ q, whichP (opsP 3) ⟨t :: q, opn, deep⟩ = some op) : Rd7 isName 3 (ts ++ t :: us) rest opn deep (mk2 op e f) := by
  obtain ⟨n, hn⟩ := h1
  obtain ⟨m, hm⟩ := h2
  have hn' := px_le isName (show n ≤ n + m by omega) _ hn
  have hm' := px_le isName (show m ≤ n + m by omega) _ hm
  refine ⟨n + m + 1, ?_⟩
  rw [List.append_assoc, px, hn']
  show (if atP wIs ⟨t :: (us ++ rest), opn, deep⟩ = true then _ else _) = _
  rw [hi, if_neg (by decide), show whichP (opsP 3) ⟨t :: us ++ rest, opn, deep⟩ = some op from hw _]
  show bindR (px isName (n + m) 4 ⟨us ++ rest, opn, deep⟩) _ = _
  rw [hm']
  rfl
/-- between parentheses -/
theorem rd_inner (h : Rd7 isName 0 ts (tShut :: rest) (opn + 1) deep e) (ho : opn < 40) : ∃ n, px isName n 8 ⟨ts ++ tShut :: rest, opn, deep⟩ = some (.ok (e, ⟨rest, opn, deep⟩)) := by
  obtain ⟨n, hn⟩ := h
  refine ⟨n + 1, ?_⟩
  rw [px, if_pos ho]
  show bindR (px isName n 0 ⟨ts ++ tShut :: rest, opn + 1, deep⟩) _ = _
  rw [hn]
  rfl
theorem rd_open (h : Rd7 isName 0 ts (tShut :: rest) (opn + 1) deep e) (ho : opn < 40) : Rd7 isName 7 (tOpen :: ts ++ [tShut]) rest opn deep e := by
  obtain ⟨n, hn⟩ := rd_inner h ho
  refine ⟨n + 1, ?_⟩
  have e1 : tOpen :: ts ++ [tShut] ++ rest = tOpen :: (ts ++ tShut :: rest) := by simp
  rw [e1, px]
  exact hn
theorem rd_call {w : List Nat} {op : Nat} (hw : (w = wInt ∧ op = 14) ∨ (w = wReal ∧ op = 15)) (h : Rd7 isName 0 ts (tShut :: rest) (opn + 1) deep e) (ho : opn < 40) : Rd7 isName 7 (tW w :: tOpen :: ts ++ [tShut]) rest opn deep (mk1 op e) := by
  obtain ⟨n, hn⟩ := rd_inner h ho
  refine ⟨n + 1, ?_⟩
  have e1 : tW w :: tOpen :: ts ++ [tShut] ++ rest = tW w :: tOpen :: (ts ++ tShut :: rest) := by simp
  rw [e1]
  have hnd : needP [40] ⟨tOpen :: (ts ++ tShut :: rest), opn, deep⟩ = retR () ⟨ts ++ tShut :: rest, opn, deep⟩ := rfl
  rcases hw with ⟨rfl, rfl⟩ | ⟨rfl, rfl⟩
  · rw [px]
    dsimp only [tW]
    rw [if_neg (by decide), if_neg (by decide), if_neg (by decide), if_pos rfl, if_neg (by decide), if_neg (by decide), if_neg (by decide), if_neg (by decide), if_neg (by decide), if_pos rfl, hnd]
    show bindR (px isName n 8 ⟨ts ++ tShut :: rest, opn, deep⟩) _ = _
    rw [hn]
    rfl
  · rw [px]
    dsimp only [tW]
    rw [if_neg (by decide), if_neg (by decide), if_neg (by decide), if_pos rfl, if_neg (by decide), if_neg (by decide), if_neg (by decide), if_neg (by decide), if_neg (by decide), if_neg (by decide), if_pos rfl, hnd]
    show bindR (px isName n 8 ⟨ts ++ tShut :: rest, opn, deep⟩) _ = _
    rw [hn]
    rfl
theorem rd_minus (h : Rd7 isName 6 ts rest opn deep e) : Rd7 isName 6 (⟨5, [45], 0, 0⟩ :: ts) rest opn deep (mk1 13 e) := by
  obtain ⟨n, hn⟩ := h
  refine ⟨n + 1, ?_⟩
  rw [px]
  show bindR (px isName n 6 ⟨ts ++ rest, opn, deep⟩) _ = _
  rw [hn]
  rfl
theorem rd_nots (h : Rd7 isName 2 ts rest opn deep e) : Rd7 isName 2 (tW wNot :: ts) rest opn deep (mk1 16 e) := by
  obtain ⟨n, hn⟩ := h
  refine ⟨n + 1, ?_⟩
  rw [px]
  show bindR (px isName n 2 ⟨ts ++ rest, opn, deep⟩) _ = _
  rw [hn]
  rfl
theorem rd_isnull (h : Rd7 isName 4 ts (tW wIs :: tW wNull :: rest) opn deep e) : Rd7 isName 3 (ts ++ [tW wIs, tW wNull]) rest opn deep (mk1 19 e) := by
  obtain ⟨n, hn⟩ := h
  refine ⟨n + 1, ?_⟩
  rw [List.append_assoc]
  show px isName (n + 1) 3 ⟨ts ++ (tW wIs :: tW wNull :: rest), opn, deep⟩ = _
  rw [px, hn]
  rfl
theorem rd_notnull (h : Rd7 isName 4 ts (tW wIs :: tW wNot :: tW wNull :: rest) opn deep e) : Rd7 isName 3 (ts ++ [tW wIs, tW wNot, tW wNull]) rest opn deep (mk1 20 e) := by
  obtain ⟨n, hn⟩ := h
  refine ⟨n + 1, ?_⟩
  rw [List.append_assoc]
  show px isName (n + 1) 3 ⟨ts ++ (tW wIs :: tW wNot :: tW wNull :: rest), opn, deep⟩ = _
  rw [px, hn]
  rfl
end
theorem end_shut (r : List Tk) : EndR (tShut :: r) := fun o d => ⟨fun lvl => by
  match lvl with
  | 0 => rfl
  | 1 => rfl
  | 2 => rfl
  | 3 => rfl
  | 4 => rfl
  | 5 => rfl
  | k + 6 => rfl, rfl, rfl⟩
theorem isN_sl {t : ByteArray} (h : nameB t = true) : isN (sl t) = true := by show nameB (strB (sl t)) = true; rw [strB_sl]; exact h
theorem lvl_of {op : Nat} (ho : op ∈ twoL) : ∃ lvl, (lvl = 0 ∨ lvl = 1 ∨ lvl = 3 ∨ lvl = 4 ∨ lvl = 5) ∧ (∀ q o d, whichP (opsP lvl) ⟨sgT op :: q, o, d⟩ = some op) ∧ (∀ l q o d, lvl < l → whichP (opsP l) ⟨sgT op :: q, o, d⟩ = none) ∧ (∀ q o d, atP wIs ⟨sgT op :: q, o, d⟩ = false) ∧ ∀ q o d, atP [46] ⟨sgT op :: q, o, d⟩ = false := by
  simp only [twoL, List.mem_cons, List.not_mem_nil, or_false] at ho
  have big : ∀ (op lvl : Nat), (∀ l q o d, lvl < l → l ≤ 5 → whichP (opsP l) ⟨sgT op :: q, o, d⟩ = none) → ∀ l q o d, lvl < l → whichP (opsP l) ⟨sgT op :: q, o, d⟩ = none := fun op lvl h l q o d hl => by
    by_cases c : l ≤ 5
    · exact h l q o d hl c
    · match l, c with
      | k + 6, _ => rfl
  rcases ho with rfl | rfl | rfl | rfl | rfl | rfl | rfl | rfl | rfl | rfl | rfl | rfl | rfl | rfl
  iterate 6 exact ⟨3, by omega, fun _ _ _ => rfl, big _ 3 (fun l q o d h1 h2 => by have : l = 4 ∨ l = 5 := by omega
                                                                                   rcases this with rfl | rfl <;> rfl), fun _ _ _ => rfl, fun _ _ _ => rfl⟩
  iterate 2 exact ⟨4, by omega, fun _ _ _ => rfl, big _ 4 (fun l q o d h1 h2 => by have : l = 5 := by omega
                                                                                   subst this; rfl), fun _ _ _ => rfl, fun _ _ _ => rfl⟩
  iterate 3 exact ⟨5, by omega, fun _ _ _ => rfl, big _ 5 (fun l q o d h1 h2 => absurd h2 (by omega)), fun _ _ _ => rfl, fun _ _ _ => rfl⟩
  · exact ⟨4, by omega, fun _ _ _ => rfl, big _ 4 (fun l q o d h1 h2 => by
      have : l = 5 := by omega
      subst this; rfl), fun _ _ _ => rfl, fun _ _ _ => rfl⟩
  · exact ⟨1, by omega, fun _ _ _ => rfl, big _ 1 (fun l q o d h1 h2 => by
      have : l = 2 ∨ l = 3 ∨ l = 4 ∨ l = 5 := by omega
      rcases this with rfl | rfl | rfl | rfl <;> rfl), fun _ _ _ => rfl, fun _ _ _ => rfl⟩
  · exact ⟨0, by omega, fun _ _ _ => rfl, big _ 0 (fun l q o d h1 h2 => by
      have : l = 1 ∨ l = 2 ∨ l = 3 ∨ l = 4 ∨ l = 5 := by omega
      rcases this with rfl | rfl | rfl | rfl | rfl <;> rfl), fun _ _ _ => rfl, fun _ _ _ => rfl⟩
/-- what is no reserved word is none of these -/
theorem res_ne {t : ByteArray} (h : nameB t = true) (w : List Nat) (hw : w ∈ resN) : sl t ≠ w := fun e => by
  obtain ⟨c, r, hs, -, -, -, -, hn⟩ := name_word h
  exact hn (e ▸ hw)
theorem leaf_name {t : ByteArray} (h : nameB t = true) {rest : List Tk} {opn deep : Nat} (he : atP [46] ⟨rest, opn, deep⟩ = false) : Rd7 isN 7 [tW (sl t)] rest opn deep (.mk 22 0 0 0 t ⟨#[]⟩ []) := by
  refine ⟨1, ?_⟩
  show px isN 1 7 ⟨tW (sl t) :: rest, opn, deep⟩ = _
  rw [px]
  dsimp only [tW]
  rw [if_neg (by decide), if_neg (by decide), if_neg (by decide), if_pos rfl, if_neg (res_ne h wNull (by decide)), if_neg (res_ne h wFalse (by decide)), if_neg (res_ne h wTrue (by decide)), if_neg (res_ne h wNan (by decide)), if_neg (res_ne h wInf (by decide)), if_neg (res_ne h wInt (by decide)), if_neg (res_ne h wReal (by decide)), if_pos (isN_sl h), he, if_neg (by decide), strB_sl]
  rfl
theorem leaf_qual {t q : ByteArray} (h : nameB t = true) (hq : nameB q = true) {rest : List Tk} {opn deep : Nat} : Rd7 isN 7 [tW (sl q), ⟨5, [46], 0, 0⟩, tW (sl t)] rest opn deep (.mk 22 0 0 0 t q []) := by
  refine ⟨1, ?_⟩
  show px isN 1 7 ⟨tW (sl q) :: ⟨5, [46], 0, 0⟩ :: tW (sl t) :: rest, opn, deep⟩ = _
  rw [px]
  dsimp only [tW]
  rw [if_neg (by decide), if_neg (by decide), if_neg (by decide), if_pos rfl, if_neg (res_ne hq wNull (by decide)), if_neg (res_ne hq wFalse (by decide)), if_neg (res_ne hq wTrue (by decide)), if_neg (res_ne hq wNan (by decide)), if_neg (res_ne hq wInf (by decide)), if_neg (res_ne hq wInt (by decide)), if_neg (res_ne hq wReal (by decide)), if_pos (isN_sl hq)]
  have h2 : nameP isN (PS.next ⟨⟨5, [46], 0, 0⟩ :: ⟨1, sl t, 0, 0⟩ :: rest, opn, deep⟩) = retR (sl t) ⟨rest, opn, deep⟩ := by
    show nameP isN ⟨⟨1, sl t, 0, 0⟩ :: rest, opn, deep⟩ = _
    unfold nameP
    dsimp only
    rw [if_pos ⟨rfl, isN_sl h⟩]
  rw [show atP [46] ⟨⟨5, [46], 0, 0⟩ :: ⟨1, sl t, 0, 0⟩ :: rest, opn, deep⟩ = true from rfl, if_pos rfl, h2]
  show retR (Ex.mk 22 0 0 0 (strB (sl t)) (strB (sl q)) []) ⟨rest, opn, deep⟩ = _
  rw [strB_sl, strB_sl]
  rfl
theorem fst_name {t : ByteArray} (h : nameB t = true) (r : List Tk) : Fst (tW (sl t) :: r) := by
  refine ⟨_, _, rfl, fun q o d => ?_, fun q o d => ?_⟩
  · have := res_ne h wNot (by decide)
    unfold atP tW
    simp only [Bool.and_eq_false_iff, beq_eq_false_iff_ne]
    exact .inl this
  · obtain ⟨c, s, hs, hb, -⟩ := name_word h
    unfold atP tW
    simp only [Bool.and_eq_false_iff, beq_eq_false_iff_ne]
    refine .inl fun e => ?_
    rw [hs] at e
    injection e with e1 e2
    subst e1
    cases hb
/-- the form's tokens are read as the expression, wherever it ends -/
theorem rd_form {e : Ex} (h : RgE e) : Fst (tokE e) ∧ ∀ rest opn deep, opn + depR e ≤ 40 → (∀ o d, atP [46] ⟨rest, o, d⟩ = false) → Rd7 isN 7 (tokE e) rest opn deep e := by
  have c21 : ∀ (k n s : Int) (t : ByteArray), tokE (cst k n s t) = [cstT k n s t] := fun k n s t => by
    unfold cst
    rw [tokE, tokA]
    rfl
  have leaf : ∀ (t : Tk) (x : Ex), (∀ q o d, atP wNot ⟨t :: q, o, d⟩ = false) → (∀ q o d, atP [45] ⟨t :: q, o, d⟩ = false) → (∀ rest o d, px isN 1 7 ⟨t :: rest, o, d⟩ = some (.ok (x, ⟨rest, o, d⟩))) → tokE x = [t] → Fst (tokE x) ∧ ∀ rest opn deep, opn + depR x ≤ 40 → (∀ o d, atP [46] ⟨rest, o, d⟩ = false) → Rd7 isN 7 (tokE x) rest opn deep x := fun t x h1 h2 h3 h4 => by
    rw [h4]
    exact ⟨⟨t, [], rfl, h1, h2⟩, fun rest o d _ _ => ⟨1, h3 rest o d⟩⟩
  induction h with
  | null => exact leaf (tW wNull) _ (fun _ _ _ => rfl) (fun _ _ _ => rfl) (fun _ _ _ => by rw [px]; rfl) (c21 _ _ _ _)
  | no => exact leaf (tW wFalse) _ (fun _ _ _ => rfl) (fun _ _ _ => rfl) (fun _ _ _ => by rw [px]; rfl) (c21 _ _ _ _)
  | yes => exact leaf (tW wTrue) _ (fun _ _ _ => rfl) (fun _ _ _ => rfl) (fun _ _ _ => by rw [px]; rfl) (c21 _ _ _ _)
  | nan => exact leaf (tW wNan) _ (fun _ _ _ => rfl) (fun _ _ _ => rfl) (fun _ _ _ => by rw [px]; rfl) (c21 _ _ _ _)
  | inf => exact leaf (tW wInf) _ (fun _ _ _ => rfl) (fun _ _ _ => rfl) (fun _ _ _ => by rw [px]; rfl) (c21 _ _ _ _)
  | int n h => exact leaf ⟨2, [], n, 0⟩ _ (fun _ _ _ => rfl) (fun _ _ _ => rfl) (fun _ _ _ => by rw [px]; rfl) (c21 _ _ _ _)
  | real n sc h h1 h2 =>
    refine leaf ⟨3, [], n, sc⟩ _ (fun _ _ _ => rfl) (fun _ _ _ => rfl) (fun _ _ _ => by rw [px]; rfl) ?_
    rw [c21]
    unfold cstT
    rw [if_neg (by decide), if_neg (by decide), if_neg (by omega), if_neg (by omega)]
    rfl
  | text s h =>
    refine leaf ⟨4, sl s, 0, 0⟩ _ (fun _ _ _ => ?_) (fun _ _ _ => ?_) (fun _ _ _ => ?_) (c21 _ _ _ _)
    · unfold atP; simp
    · unfold atP; simp
    · rw [px]
      show retR (cst 4 0 0 (strB (sl s))) _ = _
      rw [strB_sl]; rfl
  | col t h =>
    have e1 : tokE (.mk 22 0 0 0 t ⟨#[]⟩ []) = [tW (sl t)] := by rw [tokE, tokA]; rfl
    rw [e1]
    exact ⟨fst_name h [], fun rest o d _ hd => leaf_name h (hd o d)⟩
  | qual t q h hq =>
    have hq0 : ¬ q.size = 0 := fun e => by
      obtain ⟨c, s, hs, -⟩ := name_word hq
      have := sl_length q
      rw [hs, e] at this
      cases this
    have e1 : tokE (.mk 22 0 0 0 t q []) = [tW (sl q), ⟨5, [46], 0, 0⟩, tW (sl t)] := by
      rw [tokE, tokA]
      unfold leafT
      rw [if_neg (by decide), if_neg hq0]
    rw [e1]
    exact ⟨fst_name hq _, fun rest o d _ hd => leaf_qual h hq⟩
  | one op e ho h ih =>
    obtain ⟨hf, hr⟩ := ih
    have hd : depR (mk1 op e) = depR e + 1 := by unfold mk1; rw [depR, depL, depL]; exact Nat.max_eq_left (Nat.zero_le _)
    rw [tokE_one, hd]
    simp only [oneL, List.mem_cons, List.not_mem_nil, or_false] at ho
    have hop : Fst (tOpen :: (tokE e)) := ⟨tOpen, _, rfl, fun _ _ _ => rfl, fun _ _ _ => rfl⟩
    rcases ho with rfl | rfl | rfl | rfl | rfl | rfl
    · refine ⟨⟨tOpen, _, rfl, fun _ _ _ => rfl, fun _ _ _ => rfl⟩, fun rest o d hl _ => ?_⟩
      show Rd7 isN 7 (tOpen :: (⟨5, [45], 0, 0⟩ :: tokE e) ++ [tShut]) rest o d _
      refine rd_open ?_ (by omega)
      have h7 := hr (tShut :: rest) (o + 1) d (by omega) (fun _ _ => rfl)
      exact rd_down (end_shut rest) 6 0 (by omega) (fun ⟨_, h⟩ => absurd h (by omega)) (fun _ => rfl) (rd_minus (rd_sign h7 (hf.app _ _ _).2))
    · refine ⟨⟨tW wInt, _, rfl, fun _ _ _ => rfl, fun _ _ _ => rfl⟩, fun rest o d hl _ => ?_⟩
      show Rd7 isN 7 (tW wInt :: tOpen :: tokE e ++ [tShut]) rest o d _
      exact rd_call (.inl ⟨rfl, rfl⟩) (rd_down (end_shut rest) 7 0 (by omega) (fun _ => (hf.app _ _ _).2) (fun _ => (hf.app _ _ _).1) (hr (tShut :: rest) (o + 1) d (by omega) (fun _ _ => rfl))) (by omega)
    · refine ⟨⟨tW wReal, _, rfl, fun _ _ _ => rfl, fun _ _ _ => rfl⟩, fun rest o d hl _ => ?_⟩
      show Rd7 isN 7 (tW wReal :: tOpen :: tokE e ++ [tShut]) rest o d _
      exact rd_call (.inr ⟨rfl, rfl⟩) (rd_down (end_shut rest) 7 0 (by omega) (fun _ => (hf.app _ _ _).2) (fun _ => (hf.app _ _ _).1) (hr (tShut :: rest) (o + 1) d (by omega) (fun _ _ => rfl))) (by omega)
    · refine ⟨⟨tOpen, _, rfl, fun _ _ _ => rfl, fun _ _ _ => rfl⟩, fun rest o d hl _ => ?_⟩
      show Rd7 isN 7 (tOpen :: (tW wNot :: tokE e) ++ [tShut]) rest o d _
      refine rd_open ?_ (by omega)
      have h7 := hr (tShut :: rest) (o + 1) d (by omega) (fun _ _ => rfl)
      have h2 := rd_down (end_shut rest) 5 2 (by omega) (fun _ => (hf.app _ _ _).2) (fun _ => (hf.app _ _ _).1) h7
      exact rd_down (end_shut rest) 2 0 (by omega) (fun ⟨_, h⟩ => absurd h (by omega)) (fun ⟨_, h⟩ => absurd h (by omega)) (rd_nots h2)
    · refine ⟨⟨tOpen, _, rfl, fun _ _ _ => rfl, fun _ _ _ => rfl⟩, fun rest o d hl _ => ?_⟩
      have e2 : aheadT 19 ++ tokE e ++ behindT 19 = tOpen :: (tokE e ++ [tW wIs, tW wNull]) ++ [tShut] := by simp [aheadT, behindT]
      rw [e2]
      refine rd_open ?_ (by omega)
      have h7 := hr (tW wIs :: tW wNull :: tShut :: rest) (o + 1) d (by omega) (fun _ _ => rfl)
      have hw : ∀ l, 4 ≤ l → whichP (opsP l) ⟨tW wIs :: tW wNull :: tShut :: rest, o + 1, d⟩ = none := fun l hl => by
        match l, hl with
        | 4, _ => rfl
        | 5, _ => rfl
        | k + 6, _ => rfl
      have h4 : Rd7 isN 4 (tokE e) (tW wIs :: tW wNull :: tShut :: rest) (o + 1) d e := rd_chain (by omega) (rd_chain (by omega) (rd_sign h7 (hf.app _ _ _).2) (hw 5 (by omega))) (hw 4 (by omega))
      refine rd_down (end_shut rest) 3 0 (by omega) (fun ⟨_, h⟩ => absurd h (by omega)) (fun _ => ?_) (rd_isnull h4)
      rw [List.append_assoc]
      exact (hf.app _ _ _).1
    · refine ⟨⟨tOpen, _, rfl, fun _ _ _ => rfl, fun _ _ _ => rfl⟩, fun rest o d hl _ => ?_⟩
      have e2 : aheadT 20 ++ tokE e ++ behindT 20 = tOpen :: (tokE e ++ [tW wIs, tW wNot, tW wNull]) ++ [tShut] := by simp [aheadT, behindT]
      rw [e2]
      refine rd_open ?_ (by omega)
      have h7 := hr (tW wIs :: tW wNot :: tW wNull :: tShut :: rest) (o + 1) d (by omega) (fun _ _ => rfl)
      have hw : ∀ l, 4 ≤ l → whichP (opsP l) ⟨tW wIs :: tW wNot :: tW wNull :: tShut :: rest, o + 1, d⟩ = none := fun l hl => by
        match l, hl with
        | 4, _ => rfl
        | 5, _ => rfl
        | k + 6, _ => rfl
      have h4 : Rd7 isN 4 (tokE e) (tW wIs :: tW wNot :: tW wNull :: tShut :: rest) (o + 1) d e := rd_chain (by omega) (rd_chain (by omega) (rd_sign h7 (hf.app _ _ _).2) (hw 5 (by omega))) (hw 4 (by omega))
      refine rd_down (end_shut rest) 3 0 (by omega) (fun ⟨_, h⟩ => absurd h (by omega)) (fun _ => ?_) (rd_notnull h4)
      rw [List.append_assoc]
      exact (hf.app _ _ _).1
  | two op a b ho ha hb iha ihb =>
    obtain ⟨hfa, hra⟩ := iha
    obtain ⟨hfb, hrb⟩ := ihb
    have hd : depR (mk2 op a b) = max (depR a + 1) (depR b + 1) := by unfold mk2; rw [depR, depL, depL, depL, Nat.max_eq_left (Nat.zero_le _)]
    rw [tokE_two, hd]
    refine ⟨⟨tOpen, _, rfl, fun _ _ _ => rfl, fun _ _ _ => rfl⟩, fun rest o d hl _ => ?_⟩
    obtain ⟨lvl, hlv, hw, hhi, his, hdt⟩ := lvl_of ho
    have e2 : tOpen :: tokE a ++ sgT op :: tokE b ++ [tShut] = tOpen :: (tokE a ++ sgT op :: tokE b) ++ [tShut] := by simp
    rw [e2]
    refine rd_open ?_ (by omega)
    have ha7 := hra (sgT op :: tokE b ++ tShut :: rest) (o + 1) d (by omega) (fun o d => hdt _ o d)
    have hb7 := hrb (tShut :: rest) (o + 1) d (by omega) (fun _ _ => rfl)
    have ha8 := rd_to hfa (7 - (lvl + 1)) (lvl + 1) (by omega) (by omega) (fun l hl => hhi l _ _ _ (by omega)) (his _ _ _) ha7
    have hb8 := rd_down (end_shut rest) (7 - (lvl + 1)) (lvl + 1) (by omega) (fun _ => (hfb.app _ _ _).2) (fun _ => (hfb.app _ _ _).1) (by rw [show lvl + 1 + (7 - (lvl + 1)) = 7 by omega]; exact hb7)
    have hnot : atP wNot ⟨tokE a ++ sgT op :: tokE b ++ tShut :: rest, o + 1, d⟩ = false := by
      rw [List.append_assoc]
      exact (hfa.app _ _ _).1
    have hL : Rd7 isN lvl (tokE a ++ sgT op :: tokE b) (tShut :: rest) (o + 1) d (mk2 op a b) := by
      by_cases c3 : lvl = 3
      · subst c3
        exact rd_cmp ha8 hb8 (fun q => his q _ _) (fun q => hw q _ _)
      · exact rd_pair (by omega) ha8 hb8 (fun q => hw q _ _) (((end_shut rest) _ _).1 lvl)
    exact rd_down (end_shut rest) lvl 0 (by omega) (fun ⟨_, h⟩ => absurd h (by omega)) (fun _ => hnot) (by rw [Nat.zero_add]; exact hL)
/-- a right expression's form, wherever it ends, is read whole -/
theorem rd_all {e : Ex} (h : RgE e) {rest : List Tk} {opn deep : Nat} (hd : opn + depR e ≤ 40) (he : EndR rest) : Rd7 isN 0 (tokE e) rest opn deep e := by
  obtain ⟨hf, hr⟩ := rd_form h
  exact rd_down he 7 0 (by omega) (fun _ => (hf.app _ _ _).2) (fun _ => (hf.app _ _ _).1) (hr rest opn deep hd (fun o d => (he o d).2.2))

end Go.Proofs.YtkffomfbnbcgaaaGreatDoor

namespace Go.Proofs.YtkffomfbnbcgaaaGreatDoor
set_option maxRecDepth 100000
open Go.RowKit Go.Joins Go.ChangeShapes Go.WideShapes Go.Great
set_option linter.unusedVariables false
set_option linter.unusedSimpArgs false

/-- how many operands an operator takes -/
def oprN (op : Int) : Int := if (1 ≤ op ∧ op ≤ 12) ∨ op = 17 ∨ op = 18 then 2 else if (13 ≤ op ∧ op ≤ 16) ∨ op = 19 ∨ op = 20 then 1 else if op = 21 ∨ op = 22 then 0 else -1
def oprV : Array Value := #[.int .i64 (-1), .int .i64 2, .int .i64 2, .int .i64 2, .int .i64 2, .int .i64 2, .int .i64 2, .int .i64 2, .int .i64 2, .int .i64 2, .int .i64 2, .int .i64 2, .int .i64 2, .int .i64 1, .int .i64 1, .int .i64 1, .int .i64 1, .int .i64 2, .int .i64 2, .int .i64 1, .int .i64 1, .int .i64 0, .int .i64 0]
theorem oprV_at (k : Nat) (h1 : 1 ≤ k) (h2 : k ≤ 22) : oprV[k]? = some (.int .i64 (oprN (k : Int))) := by
  have hc : k = 1 ∨ k = 2 ∨ k = 3 ∨ k = 4 ∨ k = 5 ∨ k = 6 ∨ k = 7 ∨ k = 8 ∨ k = 9 ∨ k = 10 ∨ k = 11 ∨ k = 12 ∨ k = 13 ∨ k = 14 ∨ k = 15 ∨ k = 16 ∨ k = 17 ∨ k = 18 ∨ k = 19 ∨ k = 20 ∨ k = 21 ∨ k = 22 := by omega
  rcases hc with rfl | rfl | rfl | rfl | rfl | rfl | rfl | rfl | rfl | rfl | rfl | rfl | rfl | rfl | rfl | rfl | rfl | rfl | rfl | rfl | rfl | rfl <;> rfl
set_option maxHeartbeats 4000000 in
theorem operands_any (op : Int) (w : World) : Calls Tryz.prog 38 #[.int .i64 op] w fun e w' => e = .returned (.int .i64 (oprN op)) ∧ Below w.heap.size w w' := by
  generalize hP : (fun (e : Ending) (w' : World) => e = .returned (.int .i64 (oprN op)) ∧ Below w.heap.size w w') = P
  have HP := Lib.hid hP
  clear hP
  go_enter Tryz.func38, Tryz.ntmps38
  go_upto_region 1 with fail
  refine wp_region_lit ?_
  refine wpList_buildTo rfl 109 _ rfl (some 4) rfl oprV (by kernel_rfl) ?_
  refine wpList_allocTo rfl (some 3) rfl (.pointer (some ⟨w.heap.size, 0, none⟩)) (.cells (List.replicate 23 (Value.int .i64 0)).toArray 109) (by kernel_rfl) ?_
  refine wpList_store_rowOf rfl 109 (.tmp 3) (.tmp 4) rfl w.heap.size rfl rfl 109 (List.replicate 23 (Value.int .i64 0)).toArray (heap_alloc_new w _) (by kernel_rfl) (by kernel_rfl) (by kernel_rfl) ?_
  rw [show ∀ (x : Array Value), (w.alloc (.cells (List.replicate 23 (Value.int .i64 0)).toArray 109)).setRow w.heap.size x = w.alloc (.cells x 109) from fun x => World.setRow_alloc_new w _ x _]
  refine wpList_frame (a' := ⟨#[.int .i64 op, undef, .int .i64 0, .pointer (some ⟨w.heap.size, 0, none⟩), .agg oprV, undef, undef, undef, undef, undef, undef, undef, undef, undef], []⟩) (by kernel_rfl) ?_
  refine wpList_nil ?_
  show _
  generalize hW : w.alloc (.cells _ 109) = W1
  have hn := heap_alloc_new w (.cells oprV 109)
  have hb := (Below.refl w.heap.size w).alloc (Nat.le_refl _) (.cells oprV 109)
  change w.alloc (.cells oprV 109) = W1 at hW
  rw [hW] at hn hb
  have HN := Lib.hid hn
  have HB := Lib.hid hb
  clear hW hn hb
  by_cases h1 : op < 1
  · have hr : oprN op = -1 := by unfold oprN; rw [if_neg (by omega), if_neg (by omega), if_neg (by omega)]
    have HF := Lib.hid (show P (.returned (.int .i64 (-1))) W1 by rw [← HP.out, hr]; exact ⟨rfl, HB.out⟩)
    clear hr HP
    go_wp2_with fail
    exact HF.out
  · have d1 : decide (op < 1) = false := by simp; omega
    by_cases h2 : 22 < op
    · have hr : oprN op = -1 := by unfold oprN; rw [if_neg (by omega), if_neg (by omega), if_neg (by omega)]
      have HF := Lib.hid (show P (.returned (.int .i64 (-1))) W1 by rw [← HP.out, hr]; exact ⟨rfl, HB.out⟩)
      clear hr HP
      go_wp2_with fail
      exact HF.out
    · have d2 : decide (22 < op) = false := by simp; omega
      obtain ⟨k, rfl⟩ : ∃ k : Nat, op = (k : Int) := ⟨op.toNat, by omega⟩
      have k0 : (0 : Int) ≤ (k : Int) := by omega
      have k1 : (k : Int) < 23 := by omega
      have k2 : k < 23 := by omega
      have hc : W1.cell? ⟨w.heap.size, k, none⟩ = some (.int .i64 (oprN (k : Int))) := by rw [cell_of_block HN.out]; exact oprV_at k (by omega) (by omega)
      obtain ⟨z, hz⟩ : ∃ z, oprN (k : Int) = z := ⟨_, rfl⟩
      have HF := Lib.hid (show P (.returned (.int .i64 z)) W1 by rw [← HP.out, hz]; exact ⟨rfl, HB.out⟩)
      rw [hz] at hc
      clear hz h1 h2 HP
      go_wp2_with fail
      exact HF.out

end Go.Proofs.YtkffomfbnbcgaaaGreatDoor

namespace Go.Proofs.YtkffomfbnbcgaaaGreatDoor
set_option maxRecDepth 100000
open Go.RowKit Go.Joins Go.ChangeShapes Go.WideShapes
set_option linter.unusedVariables false
set_option linter.unusedSimpArgs false

/-- a constant's numbers and text are right -/
def cstB (kind num scale : Int) (text qual : ByteArray) : Bool :=
  qual.toList.isEmpty &&
  (if kind = 0 then decide (0 ≤ num) && decide (num ≤ 0) && decide (scale = 0) && text.toList.isEmpty
   else if kind = 1 then decide (0 ≤ num) && decide (num ≤ 1) && decide (scale = 0) && text.toList.isEmpty
   else if kind = 2 then decide (0 ≤ num) && decide (num ≤ 9223372036854775807) && decide (scale = 0) && text.toList.isEmpty
   else if kind = 3 then (if scale = -1 ∨ scale = -2 then decide (num = 0) && text.toList.isEmpty else text.toList.isEmpty && decide (1 ≤ scale) && decide (scale ≤ 14) && decide (0 ≤ num) && decide (num < 1000000000000000))
   else if kind = 4 then decide (num = 0) && decide (scale = 0) && decide ((text.size : Int) < 201) else false)
set_option maxHeartbeats 16000000 in
theorem constant_any (op kind num scale : Int) (text qual : ByteArray) (a : Option Addr) (n cap : Nat) (w : World) : Calls Tryz.prog 39 #[.agg #[.int .i64 op, .slice a n cap, .int .i64 kind, .int .i64 num, .int .i64 scale, .string text, .string qual]] w fun e w' => e = .returned (.bool (cstB kind num scale text qual)) ∧ Below w.heap.size w w' := by
  generalize hP : (fun (e : Ending) (w' : World) => e = .returned (.bool (cstB kind num scale text qual)) ∧ Below w.heap.size w w') = P
  have HP := Lib.hid hP
  have HB := Lib.hid (show Below w.heap.size w (w.alloc (.cells #[.int .i64 op, .slice a n cap, .int .i64 kind, .int .i64 num, .int .i64 scale, .string text, .string qual] 30)) from (Below.refl _ _).alloc (Nat.le_refl _) _)
  clear hP
  by_cases hq : qual.toList = []
  · by_cases k0 : kind = 0
    · subst k0
      by_cases hn : 0 ≤ num
      · by_cases hm : num ≤ 0
        · by_cases hs : scale = 0
          · subst hs
            by_cases ht : text.toList = []
            · have HF := Lib.hid (show P (.returned (.bool true)) _ by rw [← HP.out]; exact ⟨by unfold cstB; simp [hq, hn, hm, ht], HB.out⟩)
              clear HP
              go_enter Tryz.func39, Tryz.ntmps39
              go_wp2_with fail
              exact HF.out
            · have htf : text.toList.isEmpty = false := by simpa using ht
              have HF := Lib.hid (show P (.returned (.bool false)) _ by rw [← HP.out]; exact ⟨by unfold cstB; simp [hq, hn, hm, ht], HB.out⟩)
              clear HP
              go_enter Tryz.func39, Tryz.ntmps39
              go_wp2_with fail
              exact HF.out
          · have hsf : (scale == 0) = false := by simpa using hs
            have HF := Lib.hid (show P (.returned (.bool false)) _ by rw [← HP.out]; exact ⟨by unfold cstB; simp [hq, hn, hm, hs], HB.out⟩)
            clear HP
            go_enter Tryz.func39, Tryz.ntmps39
            go_wp2_with fail
            exact HF.out
        · have hmf : decide (num ≤ 0) = false := by simpa using hm
          have HF := Lib.hid (show P (.returned (.bool false)) _ by rw [← HP.out]; exact ⟨by unfold cstB; simp [hq, hn, hm], HB.out⟩)
          clear HP
          go_enter Tryz.func39, Tryz.ntmps39
          go_wp2_with fail
          exact HF.out
      · have hnf : decide (0 ≤ num) = false := by simpa using hn
        have HF := Lib.hid (show P (.returned (.bool false)) _ by rw [← HP.out]; exact ⟨by unfold cstB; simp [hq, hn], HB.out⟩)
        clear HP
        go_enter Tryz.func39, Tryz.ntmps39
        go_wp2_with fail
        exact HF.out
    by_cases k1 : kind = 1
    · subst k1
      by_cases hn : 0 ≤ num
      · by_cases hm : num ≤ 1
        · by_cases hs : scale = 0
          · subst hs
            by_cases ht : text.toList = []
            · have HF := Lib.hid (show P (.returned (.bool true)) _ by rw [← HP.out]; exact ⟨by unfold cstB; simp [hq, hn, hm, ht], HB.out⟩)
              clear HP
              go_enter Tryz.func39, Tryz.ntmps39
              go_wp2_with fail
              exact HF.out
            · have htf : text.toList.isEmpty = false := by simpa using ht
              have HF := Lib.hid (show P (.returned (.bool false)) _ by rw [← HP.out]; exact ⟨by unfold cstB; simp [hq, hn, hm, ht], HB.out⟩)
              clear HP
              go_enter Tryz.func39, Tryz.ntmps39
              go_wp2_with fail
              exact HF.out
          · have hsf : (scale == 0) = false := by simpa using hs
            have HF := Lib.hid (show P (.returned (.bool false)) _ by rw [← HP.out]; exact ⟨by unfold cstB; simp [hq, hn, hm, hs], HB.out⟩)
            clear HP
            go_enter Tryz.func39, Tryz.ntmps39
            go_wp2_with fail
            exact HF.out
        · have hmf : decide (num ≤ 1) = false := by simpa using hm
          have HF := Lib.hid (show P (.returned (.bool false)) _ by rw [← HP.out]; exact ⟨by unfold cstB; simp [hq, hn, hm], HB.out⟩)
          clear HP
          go_enter Tryz.func39, Tryz.ntmps39
          go_wp2_with fail
          exact HF.out
      · have hnf : decide (0 ≤ num) = false := by simpa using hn
        have HF := Lib.hid (show P (.returned (.bool false)) _ by rw [← HP.out]; exact ⟨by unfold cstB; simp [hq, hn], HB.out⟩)
        clear HP
        go_enter Tryz.func39, Tryz.ntmps39
        go_wp2_with fail
        exact HF.out
    by_cases k2 : kind = 2
    · subst k2
      by_cases hn : 0 ≤ num
      · by_cases hm : num ≤ 9223372036854775807
        · by_cases hs : scale = 0
          · subst hs
            by_cases ht : text.toList = []
            · have HF := Lib.hid (show P (.returned (.bool true)) _ by rw [← HP.out]; exact ⟨by unfold cstB; simp [hq, hn, hm, ht], HB.out⟩)
              clear HP
              go_enter Tryz.func39, Tryz.ntmps39
              go_wp2_with fail
              exact HF.out
            · have htf : text.toList.isEmpty = false := by simpa using ht
              have HF := Lib.hid (show P (.returned (.bool false)) _ by rw [← HP.out]; exact ⟨by unfold cstB; simp [hq, hn, hm, ht], HB.out⟩)
              clear HP
              go_enter Tryz.func39, Tryz.ntmps39
              go_wp2_with fail
              exact HF.out
          · have hsf : (scale == 0) = false := by simpa using hs
            have HF := Lib.hid (show P (.returned (.bool false)) _ by rw [← HP.out]; exact ⟨by unfold cstB; simp [hq, hn, hm, hs], HB.out⟩)
            clear HP
            go_enter Tryz.func39, Tryz.ntmps39
            go_wp2_with fail
            exact HF.out
        · have hmf : decide (num ≤ 9223372036854775807) = false := by simpa using hm
          have HF := Lib.hid (show P (.returned (.bool false)) _ by rw [← HP.out]; exact ⟨by unfold cstB; simp [hq, hn, hm], HB.out⟩)
          clear HP
          go_enter Tryz.func39, Tryz.ntmps39
          go_wp2_with fail
          exact HF.out
      · have hnf : decide (0 ≤ num) = false := by simpa using hn
        have HF := Lib.hid (show P (.returned (.bool false)) _ by rw [← HP.out]; exact ⟨by unfold cstB; simp [hq, hn], HB.out⟩)
        clear HP
        go_enter Tryz.func39, Tryz.ntmps39
        go_wp2_with fail
        exact HF.out
    by_cases k3 : kind = 3
    · subst k3
      by_cases h1 : scale = -1
      · subst h1
        by_cases hn0 : num = 0
        · subst hn0
          by_cases ht : text.toList = []
          · have HF := Lib.hid (show P (.returned (.bool true)) _ by rw [← HP.out]; exact ⟨by unfold cstB; simp [hq, ht], HB.out⟩)
            clear HP
            go_enter Tryz.func39, Tryz.ntmps39
            go_wp2_with fail
            exact HF.out
          · have htf : text.toList.isEmpty = false := by simpa using ht
            have HF := Lib.hid (show P (.returned (.bool false)) _ by rw [← HP.out]; exact ⟨by unfold cstB; simp [hq, ht], HB.out⟩)
            clear HP
            go_enter Tryz.func39, Tryz.ntmps39
            go_wp2_with fail
            exact HF.out
        · have hn0f : (num == 0) = false := by simpa using hn0
          have HF := Lib.hid (show P (.returned (.bool false)) _ by rw [← HP.out]; exact ⟨by unfold cstB; simp [hq, hn0], HB.out⟩)
          clear HP
          go_enter Tryz.func39, Tryz.ntmps39
          go_wp2_with fail
          exact HF.out
      · have h1f : (scale == -1) = false := by simpa using h1
        by_cases h2 : scale = -2
        · subst h2
          by_cases hn0 : num = 0
          · subst hn0
            by_cases ht : text.toList = []
            · have HF := Lib.hid (show P (.returned (.bool true)) _ by rw [← HP.out]; exact ⟨by unfold cstB; simp [hq, ht], HB.out⟩)
              clear HP
              go_enter Tryz.func39, Tryz.ntmps39
              go_wp2_with fail
              exact HF.out
            · have htf : text.toList.isEmpty = false := by simpa using ht
              have HF := Lib.hid (show P (.returned (.bool false)) _ by rw [← HP.out]; exact ⟨by unfold cstB; simp [hq, ht], HB.out⟩)
              clear HP
              go_enter Tryz.func39, Tryz.ntmps39
              go_wp2_with fail
              exact HF.out
          · have hn0f : (num == 0) = false := by simpa using hn0
            have HF := Lib.hid (show P (.returned (.bool false)) _ by rw [← HP.out]; exact ⟨by unfold cstB; simp [hq, hn0], HB.out⟩)
            clear HP
            go_enter Tryz.func39, Tryz.ntmps39
            go_wp2_with fail
            exact HF.out
        · have h2f : (scale == -2) = false := by simpa using h2
          by_cases ht : text.toList = []
          · by_cases hs1 : 1 ≤ scale
            · by_cases hs2 : scale ≤ 14
              · by_cases hn : 0 ≤ num
                · by_cases hm : num < 1000000000000000
                  · have HF := Lib.hid (show P (.returned (.bool true)) _ by rw [← HP.out]; exact ⟨by unfold cstB; simp [hq, h1, h2, ht, hs1, hs2, hn, hm], HB.out⟩)
                    clear HP
                    go_enter Tryz.func39, Tryz.ntmps39
                    go_wp2_with fail
                    exact HF.out
                  · have hmf : decide (num < 1000000000000000) = false := by simpa using hm
                    have HF := Lib.hid (show P (.returned (.bool false)) _ by rw [← HP.out]; exact ⟨by unfold cstB; simp [hq, h1, h2, ht, hs1, hs2, hn, hm], HB.out⟩)
                    clear HP
                    go_enter Tryz.func39, Tryz.ntmps39
                    go_wp2_with fail
                    exact HF.out
                · have hnf : decide (0 ≤ num) = false := by simpa using hn
                  have HF := Lib.hid (show P (.returned (.bool false)) _ by rw [← HP.out]; exact ⟨by unfold cstB; simp [hq, h1, h2, ht, hs1, hs2, hn], HB.out⟩)
                  clear HP
                  go_enter Tryz.func39, Tryz.ntmps39
                  go_wp2_with fail
                  exact HF.out
              · have hs2f : decide (scale ≤ 14) = false := by simpa using hs2
                have HF := Lib.hid (show P (.returned (.bool false)) _ by rw [← HP.out]; exact ⟨by unfold cstB; simp [hq, h1, h2, ht, hs1, hs2], HB.out⟩)
                clear HP
                go_enter Tryz.func39, Tryz.ntmps39
                go_wp2_with fail
                exact HF.out
            · have hs1f : decide (1 ≤ scale) = false := by simpa using hs1
              have HF := Lib.hid (show P (.returned (.bool false)) _ by rw [← HP.out]; exact ⟨by unfold cstB; simp [hq, h1, h2, ht, hs1], HB.out⟩)
              clear HP
              go_enter Tryz.func39, Tryz.ntmps39
              go_wp2_with fail
              exact HF.out
          · have htf : text.toList.isEmpty = false := by simpa using ht
            have HF := Lib.hid (show P (.returned (.bool false)) _ by rw [← HP.out]; exact ⟨by unfold cstB; simp [hq, h1, h2, ht], HB.out⟩)
            clear HP
            go_enter Tryz.func39, Tryz.ntmps39
            go_wp2_with fail
            exact HF.out
    by_cases k4 : kind = 4
    · subst k4
      by_cases hn0 : num = 0
      · subst hn0
        by_cases hs : scale = 0
        · subst hs
          by_cases hl : (text.size : Int) < 201
          · have HF := Lib.hid (show P (.returned (.bool true)) _ by rw [← HP.out]; exact ⟨by unfold cstB; simp [hq, hl], HB.out⟩)
            clear HP
            go_enter Tryz.func39, Tryz.ntmps39
            go_wp2_with fail
            exact HF.out
          · have hlf : decide ((text.size : Int) < 201) = false := by simpa using hl
            have HF := Lib.hid (show P (.returned (.bool false)) _ by rw [← HP.out]; exact ⟨by unfold cstB; simp [hq, hl], HB.out⟩)
            clear HP
            go_enter Tryz.func39, Tryz.ntmps39
            go_wp2_with fail
            exact HF.out
        · have hsf : (scale == 0) = false := by simpa using hs
          have HF := Lib.hid (show P (.returned (.bool false)) _ by rw [← HP.out]; exact ⟨by unfold cstB; simp [hq, hs], HB.out⟩)
          clear HP
          go_enter Tryz.func39, Tryz.ntmps39
          go_wp2_with fail
          exact HF.out
      · have hn0f : (num == 0) = false := by simpa using hn0
        have HF := Lib.hid (show P (.returned (.bool false)) _ by rw [← HP.out]; exact ⟨by unfold cstB; simp [hq, hn0], HB.out⟩)
        clear HP
        go_enter Tryz.func39, Tryz.ntmps39
        go_wp2_with fail
        exact HF.out
    have k0f : (kind == 0) = false := by simpa using k0
    have k1f : (kind == 1) = false := by simpa using k1
    have k2f : (kind == 2) = false := by simpa using k2
    have k3f : (kind == 3) = false := by simpa using k3
    have k4f : (kind == 4) = false := by simpa using k4
    have HF := Lib.hid (show P (.returned (.bool false)) _ by rw [← HP.out]; exact ⟨by unfold cstB; simp [hq, k0, k1, k2, k3, k4], HB.out⟩)
    clear HP
    go_enter Tryz.func39, Tryz.ntmps39
    go_wp2_with fail
    exact HF.out
  · have hqf : qual.toList.isEmpty = false := by simpa using hq
    have HF := Lib.hid (show P (.returned (.bool false)) _ by rw [← HP.out]; exact ⟨by unfold cstB; simp [hq], HB.out⟩)
    clear HP
    go_enter Tryz.func39, Tryz.ntmps39
    go_wp2_with fail
    exact HF.out

end Go.Proofs.YtkffomfbnbcgaaaGreatDoor

namespace Go.Proofs.YtkffomfbnbcgaaaGreatDoor
set_option maxRecDepth 100000
open Go.RowKit Go.Joins Go.ChangeShapes Go.WideShapes
set_option linter.unusedVariables false
set_option linter.unusedSimpArgs false

mutual
/-- a right expression, told -/
def rightB : Ex → Bool
  | .mk op kind num scale text qual args => decide ((args.length : Int) = oprN op) && (if op = 21 then cstB kind num scale text qual else decide (kind = 0 ∧ num = 0 ∧ scale = 0) && (if op = 22 then nameB text && (qual.toList.isEmpty || nameB qual) else rightL args && text.toList.isEmpty && qual.toList.isEmpty))
def rightL : List Ex → Bool
  | [] => true
  | a :: r => rightB a && rightL r
end
theorem rightL_all : ∀ {l : List Ex}, rightL l = true ↔ ∀ x ∈ l, rightB x = true
  | [] => by simp [rightL]
  | a :: r => by simp [rightL, rightL_all (l := r)]
theorem emp_of {s : ByteArray} (h : s.toList = []) : s = ⟨#[]⟩ := by
  rw [ByteArray.toList_eq] at h
  cases s with
  | mk d =>
    have : d = #[] := Array.toList_eq_nil_iff.1 h
    rw [this]
theorem nat_of {z : Int} (h : 0 ≤ z) : ∃ n : Nat, z = (n : Int) := ⟨z.toNat, by omega⟩
theorem right_rge : ∀ (n : Nat) (e : Ex), szE e ≤ n → rightB e = true → RgE e
  | 0, .mk _ _ _ _ _ _ _, h, _ => by rw [szE] at h; omega
  | N + 1, .mk op kind num scale text qual args, h, hr => by
    rw [rightB] at hr
    rw [szE] at h
    simp only [Bool.and_eq_true, decide_eq_true_eq] at hr
    obtain ⟨hl, hr⟩ := hr
    by_cases h21 : op = 21
    · subst h21
      rw [if_pos rfl] at hr
      have hn : args = [] := List.eq_nil_of_length_eq_zero (by unfold oprN at hl; simp at hl; rw [hl]; rfl)
      subst hn
      unfold cstB at hr
      simp only [Bool.and_eq_true, List.isEmpty_iff] at hr
      obtain ⟨hq, hr⟩ := hr
      have hq := emp_of hq
      subst hq
      by_cases k0 : kind = 0
      · subst k0
        simp at hr
        obtain ⟨⟨⟨a1, a2⟩, a3⟩, a4⟩ := hr
        have := emp_of a4
        have hz : num = 0 := by omega
        subst this hz a3
        exact RgE.null
      rw [if_neg k0] at hr
      by_cases k1 : kind = 1
      · subst k1
        simp at hr
        obtain ⟨⟨⟨a1, a2⟩, a3⟩, a4⟩ := hr
        have := emp_of a4
        subst this a3
        have hz : num = 0 ∨ num = 1 := by omega
        rcases hz with rfl | rfl
        · exact RgE.no
        · exact RgE.yes
      rw [if_neg k1] at hr
      by_cases k2 : kind = 2
      · subst k2
        simp at hr
        obtain ⟨⟨⟨a1, a2⟩, a3⟩, a4⟩ := hr
        have := emp_of a4
        subst this a3
        obtain ⟨m, rfl⟩ := nat_of a1
        exact RgE.int m (by omega)
      rw [if_neg k2] at hr
      by_cases k3 : kind = 3
      · subst k3
        rw [if_pos rfl] at hr
        by_cases s1 : scale = -1 ∨ scale = -2
        · rw [if_pos s1] at hr
          simp at hr
          obtain ⟨a1, a4⟩ := hr
          have := emp_of a4
          subst this a1
          rcases s1 with rfl | rfl
          · exact RgE.nan
          · exact RgE.inf
        · rw [if_neg s1] at hr
          simp at hr
          obtain ⟨⟨⟨⟨a4, b1⟩, b2⟩, a1⟩, a2⟩ := hr
          have := emp_of a4
          subst this
          obtain ⟨m, rfl⟩ := nat_of a1
          obtain ⟨sc, rfl⟩ := nat_of (z := scale) (by omega)
          exact RgE.real m sc (by omega) (by omega) (by omega)
      rw [if_neg k3] at hr
      by_cases k4 : kind = 4
      · subst k4
        simp at hr
        obtain ⟨⟨a1, a2⟩, a3⟩ := hr
        subst a1 a2
        exact RgE.text text (by omega)
      · rw [if_neg k4] at hr; cases hr
    · rw [if_neg h21] at hr
      simp only [Bool.and_eq_true, decide_eq_true_eq] at hr
      obtain ⟨⟨rfl, rfl, rfl⟩, hr⟩ := hr
      by_cases h22 : op = 22
      · subst h22
        rw [if_pos rfl] at hr
        have hn : args = [] := List.eq_nil_of_length_eq_zero (by unfold oprN at hl; simp at hl; rw [hl]; rfl)
        subst hn
        simp only [Bool.and_eq_true, Bool.or_eq_true, List.isEmpty_iff] at hr
        obtain ⟨h1, h2⟩ := hr
        rcases h2 with h2 | h2
        · have := emp_of h2
          subst this
          exact RgE.col text h1
        · exact RgE.qual text qual h1 h2
      · rw [if_neg h22] at hr
        simp only [Bool.and_eq_true, List.isEmpty_iff] at hr
        obtain ⟨⟨h1, h2⟩, h3⟩ := hr
        have := emp_of h2
        have := emp_of h3
        subst text qual
        have hal := rightL_all.1 h1
        have hsz : ∀ x ∈ args, szE x ≤ N := by
          have key : ∀ l : List Ex, ∀ x ∈ l, szE x ≤ szL l := by
            intro l
            induction l with
            | nil => intro x hx; cases hx
            | cons a r ih =>
              intro x hx
              rw [szL]
              rcases List.mem_cons.1 hx with rfl | hx
              · omega
              · have := ih x hx; omega
          intro x hx
          have := key args x hx
          omega
        by_cases t2 : (1 ≤ op ∧ op ≤ 12) ∨ op = 17 ∨ op = 18
        · unfold oprN at hl
          rw [if_pos t2] at hl
          have h2 : args.length = 2 := by omega
          obtain ⟨m, rfl⟩ := nat_of (z := op) (by omega)
          match args, h2 with
          | [a, b], _ =>
            exact RgE.two m a b (by simp only [twoL, List.mem_cons, List.not_mem_nil, or_false]; omega) (right_rge N a (hsz a (by simp)) (hal a (by simp))) (right_rge N b (hsz b (by simp)) (hal b (by simp)))
        · by_cases t1 : (13 ≤ op ∧ op ≤ 16) ∨ op = 19 ∨ op = 20
          · unfold oprN at hl
            rw [if_neg t2, if_pos t1] at hl
            have h2 : args.length = 1 := by omega
            obtain ⟨m, rfl⟩ := nat_of (z := op) (by omega)
            match args, h2 with
            | [a], _ =>
              exact RgE.one m a (by simp only [oneL, List.mem_cons, List.not_mem_nil, or_false]; omega) (right_rge N a (hsz a (by simp)) (hal a (by simp)))
          · unfold oprN at hl
            rw [if_neg t2, if_neg t1] at hl
            split at hl
            · omega
            · omega
set_option maxHeartbeats 16000000 in
theorem rexpr_any : ∀ (N : Nat) {K : Bl} {w : World} (x : XE), depR x.er < N → XE.Mem K w x →
    Calls Tryz.prog 18 #[x.val] w fun e w' => e = .returned (.bool (rightB x.er)) ∧ Below w.heap.size w w'
  | 0, K, w, x, h, _ => absurd h (by omega)
  | N + 1, K, w, .mk op kind num scale text qual a cap args, h, hm => by
    have HI := Lib.hid (fun (w : World) (x : XE) => rexpr_any N (K := K) (w := w) x)
    obtain ⟨R, hR⟩ : ∃ R, rightB (XE.er (.mk op kind num scale text qual a cap args)) = R := ⟨_, rfl⟩
    rw [hR]
    rw [XE.er, rightB] at hR
    rw [XE.er, depR] at h
    generalize hP : (fun (e : Ending) (w' : World) => e = .returned (.bool R) ∧ Below w.heap.size w w') = P
    have HP := Lib.hid hP
    have b1 : Below w.heap.size w (w.alloc (.cells #[.int .i64 op, .slice a args.length cap, .int .i64 kind, .int .i64 num, .int .i64 scale, .string text, .string qual] 30)) := (Below.refl _ _).alloc (Nat.le_refl _) _
    have hn1 := Bx.new w #[.int .i64 op, .slice a args.length cap, .int .i64 kind, .int .i64 num, .int .i64 scale, .string text, .string qual] 30
    rw [XE.erL_length] at hR
    obtain ⟨n, hn⟩ : ∃ n, args.length = n := ⟨_, rfl⟩
    have hnc : n ≤ cap := by rw [← hn]; unfold XE.Mem at hm; exact hm.1
    have hcm : cap ≤ maxLen := by unfold XE.Mem at hm; exact hm.2.1
    have HM0 := hm.below b1
    rw [hn] at b1 hn1 HM0 hR
    obtain ⟨wa, hwa⟩ : ∃ wa, w.alloc (.cells #[.int .i64 op, .slice a n cap, .int .i64 kind, .int .i64 num, .int .i64 scale, .string text, .string qual] 30) = wa := ⟨_, rfl⟩
    rw [hwa] at b1 hn1 HM0
    have HM := Lib.hid (And.intro HM0 (And.intro hn h))
    have HN := Lib.hid hn1
    have HB := Lib.hid b1
    have HRR := Lib.hid hR
    obtain ⟨z, hz⟩ : ∃ z, oprN op = z := ⟨_, rfl⟩
    have HZ := Lib.hid hz
    have HOP := Lib.hid (fun (wv : World) => operands_any op wv)
    rw [hz] at HOP
    have HK := Lib.hid (fun (w0 : World) (hb0 : Below wa.heap.size wa w0) => show Below wa.heap.size wa w0 ∧ w0.cell? ⟨w.heap.size, 0, none⟩ = some (.int .i64 op) ∧ w0.cell? ⟨w.heap.size, 1, none⟩ = some (.slice a n cap) from ⟨hb0, (hn1.below hb0).cell rfl, (hn1.below hb0).cell rfl⟩)
    simp only [XE.val]
    rw [hn]
    clear hP b1 hn1 hm HM0 hn h hR hz
    by_cases h21 : op = 21
    · subst h21
      go_enter Tryz.func18, Tryz.ntmps18
      go_wp2_with fail
      go_region_held3 (fun w0 => Below wa.heap.size wa w0 ∧ w0.cell? ⟨w.heap.size, 0, none⟩ = some (.int .i64 21) ∧ w0.cell? ⟨w.heap.size, 1, none⟩ = some (.slice a n cap))
        (first | exact HK.out _ (Below.refl _ _) | exact HK.out _ (Below.refl _ _).drew | exact HK.out _ hbx)
        (first | (go_at_call 38; refine (HOP.out _).mono ?_; rintro e w1 ⟨rfl, hbx0⟩; have hbx : Below wa.heap.size wa w1 := clq (by assumption) hbx0))
      all_goals
        have HW := Lib.hid hbx
        obtain ⟨⟨x0, x1, x2, x3, x4, x5, x6⟩, -⟩ := (HN.out.below hbx).seven
        have HWB := Lib.hid (HB.out.trans (hbx.mono HB.out.size))
        clear hbx
        by_cases hc : (n : Int) = z
        case neg =>
          have hcf : ((n : Int) != z) = true := by simpa using hc
          have hRb : R = false := by rw [← HRR.out]; rw [HZ.out]; simp [hc]
          have HF := Lib.hid (show P (.returned (.bool false)) w1 by rw [← HP.out, hRb]; exact ⟨rfl, HWB.out⟩)
          clear hRb HP
          go_wp2_with fail
          exact HF.out
        have hct : ((n : Int) != z) = false := by simpa using hc
        have HC := Lib.hid hc
        clear hc
        have HCC := Lib.hid (constant_any 21 kind num scale text qual a n cap w1)
        go_wp2_with fail
        try go_at_call 39
        refine HCC.out.mono ?_
        rintro e w2 ⟨rfl, b2⟩
        have HB2 := Lib.hid (HWB.out.trans (b2.mono HWB.out.size))
        clear b2
        have hRb : cstB kind num scale text qual = R := by rw [← HRR.out, HZ.out, decide_eq_true HC.out]; simp
        rw [hRb]
        have HF := Lib.hid (show P (.returned (.bool R)) w2 by rw [← HP.out]; exact ⟨rfl, HB2.out⟩)
        clear hRb HP
        go_wp2_with fail
        exact HF.out
    by_cases h22 : op = 22
    · subst h22
      go_enter Tryz.func18, Tryz.ntmps18
      go_wp2_with fail
      go_region_held3 (fun w0 => Below wa.heap.size wa w0 ∧ w0.cell? ⟨w.heap.size, 0, none⟩ = some (.int .i64 22) ∧ w0.cell? ⟨w.heap.size, 1, none⟩ = some (.slice a n cap))
        (first | exact HK.out _ (Below.refl _ _) | exact HK.out _ (Below.refl _ _).drew | exact HK.out _ hbx)
        (first | (go_at_call 38; refine (HOP.out _).mono ?_; rintro e w1 ⟨rfl, hbx0⟩; have hbx : Below wa.heap.size wa w1 := clq (by assumption) hbx0))
      all_goals
        have HW := Lib.hid hbx
        obtain ⟨⟨x0, x1, x2, x3, x4, x5, x6⟩, -⟩ := (HN.out.below hbx).seven
        have HWB := Lib.hid (HB.out.trans (hbx.mono HB.out.size))
        clear hbx
        by_cases hc : (n : Int) = z
        case neg =>
          have hcf : ((n : Int) != z) = true := by simpa using hc
          have hRb : R = false := by rw [← HRR.out]; rw [HZ.out]; simp [hc]
          have HF := Lib.hid (show P (.returned (.bool false)) w1 by rw [← HP.out, hRb]; exact ⟨rfl, HWB.out⟩)
          clear hRb HP
          go_wp2_with fail
          exact HF.out
        have hct : ((n : Int) != z) = false := by simpa using hc
        have HC := Lib.hid hc
        clear hc
        by_cases kz : kind = 0
        case neg =>
          have kzf : (kind != 0) = true := by simpa using kz
          have hRb : R = false := by rw [← HRR.out]; simp [kz]
          have HF := Lib.hid (show P (.returned (.bool false)) w1 by rw [← HP.out, hRb]; exact ⟨rfl, HWB.out⟩)
          clear hRb HP
          go_wp2_with fail
          exact HF.out
        subst kz
        by_cases nz : num = 0
        case neg =>
          have nzf : (num != 0) = true := by simpa using nz
          have hRb : R = false := by rw [← HRR.out]; simp [nz]
          have HF := Lib.hid (show P (.returned (.bool false)) w1 by rw [← HP.out, hRb]; exact ⟨rfl, HWB.out⟩)
          clear hRb HP
          go_wp2_with fail
          exact HF.out
        subst nz
        by_cases sz : scale = 0
        case neg =>
          have szf : (scale != 0) = true := by simpa using sz
          have hRb : R = false := by rw [← HRR.out]; simp [sz]
          have HF := Lib.hid (show P (.returned (.bool false)) w1 by rw [← HP.out, hRb]; exact ⟨rfl, HWB.out⟩)
          clear hRb HP
          go_wp2_with fail
          exact HF.out
        subst sz
        have HN1 := Lib.hid (rname_any text w1)
        by_cases ht : nameB text = true
        case neg =>
          have htf : nameB text = false := by simpa using ht
          rw [htf] at HN1
          go_wp2_with fail
          try go_at_call 40
          refine HN1.out.mono ?_
          rintro e w2 ⟨rfl, b2⟩
          have HB2 := Lib.hid (HWB.out.trans (b2.mono HWB.out.size))
          clear b2 ht
          have hRb : R = false := by rw [← HRR.out]; simp [htf]
          have HF := Lib.hid (show P (.returned (.bool false)) w2 by rw [← HP.out, hRb]; exact ⟨rfl, HB2.out⟩)
          clear hRb HP htf
          go_wp2_with fail
          exact HF.out
        rw [ht] at HN1
        by_cases hq : qual.toList = []
        · have hq2 : qual.toList.isEmpty = true := by simpa using hq
          go_wp2_with fail
          try go_at_call 40
          refine HN1.out.mono ?_
          rintro e w2 ⟨rfl, b2⟩
          have HB2 := Lib.hid (HWB.out.trans (b2.mono HWB.out.size))
          have y6 : w2.cell? ⟨w.heap.size, 6, none⟩ = some (.string qual) := ((HN.out.below HW.out).below b2).cell rfl
          have hRb : R = true := by rw [← HRR.out, HZ.out, decide_eq_true HC.out]; simp [ht, hq]
          have HF := Lib.hid (show P (.returned (.bool true)) w2 by rw [← HP.out, hRb]; exact ⟨rfl, HB2.out⟩)
          clear b2 ht hRb HP
          go_wp2_with fail
          exact HF.out
        · have hqf : qual.toList.isEmpty = false := by simpa using hq
          go_wp2_with fail
          try go_at_call 40
          refine HN1.out.mono ?_
          rintro e w2 ⟨rfl, b2⟩
          have HB2 := Lib.hid (HWB.out.trans (b2.mono HWB.out.size))
          have y6 : w2.cell? ⟨w.heap.size, 6, none⟩ = some (.string qual) := ((HN.out.below HW.out).below b2).cell rfl
          have hRb : nameB qual = R := by rw [← HRR.out, HZ.out, decide_eq_true HC.out]; simp [ht, hq]
          have HN2 := Lib.hid (rname_any qual w2)
          rw [hRb] at HN2
          clear b2 ht hRb
          go_wp2_with fail
          try go_at_call 40
          refine HN2.out.mono ?_
          rintro e w3 ⟨rfl, b3⟩
          have HF := Lib.hid (show P (.returned (.bool R)) w3 by rw [← HP.out]; exact ⟨rfl, HB2.out.trans (b3.mono HB2.out.size)⟩)
          clear b3 HP
          go_wp2_with fail
          exact HF.out
    have o21 : (op == 21) = false := by simpa using h21
    have o22 : (op == 22) = false := by simpa using h22
    go_enter Tryz.func18, Tryz.ntmps18
    go_wp2_with fail
    go_region_held3 (fun w0 => Below wa.heap.size wa w0 ∧ w0.cell? ⟨w.heap.size, 0, none⟩ = some (.int .i64 op) ∧ w0.cell? ⟨w.heap.size, 1, none⟩ = some (.slice a n cap))
      (first | exact HK.out _ (Below.refl _ _) | exact HK.out _ (Below.refl _ _).drew | exact HK.out _ hbx)
      (first | (go_at_call 38; refine (HOP.out _).mono ?_; rintro e w1 ⟨rfl, hbx0⟩; have hbx : Below wa.heap.size wa w1 := clq (by assumption) hbx0))
    all_goals
      have HW := Lib.hid hbx
      obtain ⟨⟨x0, x1, x2, x3, x4, x5, x6⟩, -⟩ := (HN.out.below hbx).seven
      have HWB := Lib.hid (HB.out.trans (hbx.mono HB.out.size))
      clear hbx
      by_cases hc : (n : Int) = z
      case neg =>
        have hcf : ((n : Int) != z) = true := by simpa using hc
        have hRb : R = false := by rw [← HRR.out]; rw [HZ.out]; simp [hc]
        have HF := Lib.hid (show P (.returned (.bool false)) w1 by rw [← HP.out, hRb]; exact ⟨rfl, HWB.out⟩)
        clear hRb HP
        go_wp2_with fail
        exact HF.out
      have hct : ((n : Int) != z) = false := by simpa using hc
      have HC := Lib.hid hc
      clear hc
      by_cases kz : kind = 0
      case neg =>
        have kzf : (kind != 0) = true := by simpa using kz
        have hRb : R = false := by rw [← HRR.out]; simp [h21, kz]
        have HF := Lib.hid (show P (.returned (.bool false)) w1 by rw [← HP.out, hRb]; exact ⟨rfl, HWB.out⟩)
        clear hRb HP
        go_wp2_with fail
        exact HF.out
      subst kz
      by_cases nz : num = 0
      case neg =>
        have nzf : (num != 0) = true := by simpa using nz
        have hRb : R = false := by rw [← HRR.out]; simp [h21, nz]
        have HF := Lib.hid (show P (.returned (.bool false)) w1 by rw [← HP.out, hRb]; exact ⟨rfl, HWB.out⟩)
        clear hRb HP
        go_wp2_with fail
        exact HF.out
      subst nz
      by_cases sz : scale = 0
      case neg =>
        have szf : (scale != 0) = true := by simpa using sz
        have hRb : R = false := by rw [← HRR.out]; simp [h21, sz]
        have HF := Lib.hid (show P (.returned (.bool false)) w1 by rw [← HP.out, hRb]; exact ⟨rfl, HWB.out⟩)
        clear hRb HP
        go_wp2_with fail
        exact HF.out
      subst sz
      have HRL := Lib.hid (show (rightL (XE.erL args) && text.toList.isEmpty && qual.toList.isEmpty) = R by rw [← HRR.out, if_neg h21, if_neg h22, HZ.out, decide_eq_true HC.out, Bool.true_and, decide_eq_true (show (0 : Int) = 0 ∧ (0 : Int) = 0 ∧ (0 : Int) = 0 from ⟨rfl, rfl, rfl⟩), Bool.true_and])
      clear h21 h22 HOP
      go_wp2_with fail
      clear x0 x1 x2 x3 x4 x5 x6
      go_loopw [3] (fun i wr => ∃ (k : Nat), k ≤ n ∧ i = .int .i64 (k : Int) ∧ Hid (Below wa.heap.size wa wr ∧ ∀ j x, j < k → args[j]? = some x → rightB x.er = true)) (fun i _ => n - (intOf i).toNat)
      case atStart => exact ⟨0, Nat.zero_le _, rfl, Lib.hid ⟨HW.out, fun j x hj => absurd hj (Nat.not_lt_zero _)⟩⟩
      case round =>
        obtain ⟨k, hk, rfl, HR⟩ := hrel
        obtain ⟨⟨y0, y1, y2, y3, y4, y5, y6⟩, -⟩ := (HN.out.below HR.out.1).seven
        have HWR := Lib.hid (HB.out.trans (HR.out.1.mono HB.out.size))
        by_cases c : k < n
        · have c1 : (k : Int) < (n : Int) := by omega
          have hx : args[k]? = some (args[k]'(by rw [HM.out.2.1]; exact c)) := List.getElem?_eq_getElem _
          generalize args[k]'(by rw [HM.out.2.1]; exact c) = x at *
          obtain ⟨b, off, rfl, -, hb, hcell, hmx⟩ := XE.Mem.at (HM.out.1.below HR.out.1) hx
          have hmem : x.er ∈ XE.erL args := by rw [XE.erL_map]; exact List.mem_map_of_mem (List.mem_of_getElem? hx)
          have hdx : depR x.er < N := by
            have h1 := depL_mx (XE.erL args) (fun e => by rw [e] at hmem; cases hmem)
            have h2 := mxL_mem hmem
            have h3 := HM.out.2.2
            omega
          have HX := Lib.hid (And.intro hx hmem)
          have HCA := Lib.hid (HI.out wr x hdx hmx)
          obtain ⟨rb, hrb⟩ : ∃ rb, rightB x.er = rb := ⟨_, rfl⟩
          rw [hrb] at HCA
          have HRB := Lib.hid hrb
          obtain ⟨op1, kind1, num1, scale1, text1, qual1, a1, cap1, args1⟩ := x
          have q0 := hcell 0 _ rfl
          have q1 := hcell 1 _ rfl
          have q2 := hcell 2 _ rfl
          have q3 := hcell 3 _ rfl
          have q4 := hcell 4 _ rfl
          have q5 := hcell 5 _ rfl
          have q6 := hcell 6 _ rfl
          rw [Nat.add_zero] at q0
          simp only [XE.val] at HCA
          have hwk : wrap64 ((k : Int) + 1) = ((k + 1 : Nat) : Int) := by unfold wrap64 maxLen at *; omega
          clear hx hcell hmx hdx hmem hrb
          go_wp2_with fail
          try go_at_call 18
          refine HCA.out.mono ?_
          rintro e w3 ⟨rfl, b3⟩
          have HB3 := Lib.hid (HR.out.1.trans (b3.mono HR.out.1.size))
          have HF3 := Lib.hid (HB.out.trans (HB3.out.mono HB.out.size))
          clear b3
          cases rb with
          | false =>
            have hRb : R = false := by
              rw [← HRL.out]
              have : rightL (XE.erL args) = false := by
                cases hq : rightL (XE.erL args) with
                | false => rfl
                | true => have := rightL_all.1 hq _ HX.out.2; rw [HRB.out] at this; cases this
              rw [this]; rfl
            have HF := Lib.hid (show P (.returned (.bool false)) w3 by rw [← HP.out, hRb]; exact ⟨rfl, HF3.out⟩)
            clear hRb HP
            go_wp2_with fail
            exact HF.out
          | true =>
            go_wp2_with fail
            refine ⟨⟨k + 1, Nat.succ_le_of_lt c, by rw [hwk], Lib.hid ⟨HB3.out, fun j x hj hx => ?_⟩⟩, ?_⟩
            · by_cases hjk : j < k
              · exact HR.out.2 j x hjk hx
              · obtain rfl : j = k := by omega
                have := HX.out.1
                rw [this] at hx
                injection hx with hx
                rw [← hx]
                exact HRB.out
            · rw [hwk]
              simp [intOf]
              omega
        · have c2 : decide ((k : Int) < (n : Int)) = false := by simp; omega
          obtain rfl : k = n := by omega
          have hall : rightL (XE.erL args) = true := rightL_all.2 fun e he => by
            rw [XE.erL_map] at he
            obtain ⟨x, hx, rfl⟩ := List.mem_map.1 he
            obtain ⟨j, hj⟩ := List.getElem?_of_mem hx
            have hjl := (List.getElem?_eq_some_iff.1 hj).1
            exact HR.out.2 j x (by rw [← HM.out.2.1]; exact hjl) hj
          have HRR2 := Lib.hid (show (text.toList.isEmpty && qual.toList.isEmpty) = R by rw [← HRL.out, hall]; simp)
          clear hall
          by_cases ht : text.toList = []
          · by_cases hq : qual.toList = []
            · have hRb : R = true := by rw [← HRR2.out]; simp [ht, hq]
              have HF := Lib.hid (show P (.returned (.bool true)) wr by rw [← HP.out, hRb]; exact ⟨rfl, HWR.out⟩)
              clear hRb HP
              go_wp2_with fail
              exact HF.out
            · have hqf : qual.toList.isEmpty = false := by simpa using hq
              have hRb : R = false := by rw [← HRR2.out]; simp [ht, hq]
              have HF := Lib.hid (show P (.returned (.bool false)) wr by rw [← HP.out, hRb]; exact ⟨rfl, HWR.out⟩)
              clear hRb HP
              go_wp2_with fail
              exact HF.out
          · have htf : text.toList.isEmpty = false := by simpa using ht
            have hRb : R = false := by rw [← HRR2.out]; simp [ht]
            have HF := Lib.hid (show P (.returned (.bool false)) wr by rw [← HP.out, hRb]; exact ⟨rfl, HWR.out⟩)
            clear hRb HP
            go_wp2_with fail
            exact HF.out

end Go.Proofs.YtkffomfbnbcgaaaGreatDoor
