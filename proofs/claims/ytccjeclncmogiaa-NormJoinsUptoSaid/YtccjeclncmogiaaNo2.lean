/-
  Codes that came in (layer 18).
  Conditions: none.
-/
import Derived.Test.YtccjeclncmogiaaNo1
import Derived.Deep.Slices
import Derived.Deep.Fields
import Derived.Deep.Strs
import Derived.Lib.SmallJoins
namespace Go.Proofs.Ytccjeclncmogiaa
open Go.RowKit Go.Joins Go.ChangeShapes Go.WideShapes
set_option linter.unusedVariables false
set_option linter.unusedSimpArgs false

theorem oe_one {H : Type} (d : DataW H) : 1 ≤ Rows.uptoBulk d := by
  cases d with
  | lit l => cases l <;> simp [Rows.uptoBulk]
  | _ => simp [Rows.uptoBulk]
theorem oe_mem {H : Type} {d : DataW H} : ∀ {l : List (DataW H)}, d ∈ l → Rows.uptoBulk d ≤ Rows.uptoBulkAll l
  | [], h => by cases h
  | x :: r, h => by
    unfold Rows.uptoBulkAll
    rcases List.mem_cons.1 h with rfl | h
    · omega
    · have := oe_mem h; omega
theorem oe_all {H : Type} {l : List (DataW H)} (hk : Rows.uptoSmall H l = true) : Rows.uptoBulkAll l ≤ 1048576 := of_decide_eq_true hk
theorem oe_arg {H : Type} {l : List (DataW H)} (hk : Rows.uptoSmall H l = true) {d : DataW H} (h : d ∈ l) : Rows.uptoBulk d ≤ 1048576 := Nat.le_trans (oe_mem h) (oe_all hk)
mutual
/-- how great a code is -/
def szC : Cd → Nat
  | .mk _ _ args _ _ vs _ _ => 1 + vs.size + szCL args
def szCL : List Cd → Nat
  | [] => 0
  | a :: r => szC a + szCL r
end
theorem dep_szc : ∀ (n : Nat) (e : Cd), szC e ≤ n → depC e ≤ szC e
  | 0, .mk _ _ _ _ _ _ _ _, h => by rw [szC] at h; omega
  | n + 1, .mk op ty args vk vn vs tab col, h => by
    rw [szC] at h ⊢
    rw [depC]
    have hl : ∀ l : List Cd, szCL l ≤ n → depCL l ≤ szCL l := by
      intro l
      induction l with
      | nil => intro _; simp [depCL, szCL]
      | cons a r ih =>
        intro hr
        rw [szCL] at hr
        rw [depCL, szCL]
        have h1 := dep_szc n a (by omega)
        have h2 := ih (by omega)
        omega
    have := hl args (by omega)
    omega
mutual
/-- its numbers are of 64 bits -/
def XC.Wd : XC → Prop
  | .mk op ty _ _ args vk vn _ tab col => ((Lit.int .i64 op).wf = true ∧ (Lit.int .i64 ty).wf = true ∧ (Lit.int .i64 vk).wf = true ∧ (Lit.int .i64 vn).wf = true ∧ (Lit.int .i64 tab).wf = true ∧ (Lit.int .i64 col).wf = true) ∧ XC.WdL args
def XC.WdL : List XC → Prop
  | [] => True
  | x :: r => XC.Wd x ∧ XC.WdL r
end
theorem XC.wdL_iff : ∀ {l : List XC}, XC.WdL l ↔ ∀ x ∈ l, XC.Wd x
  | [] => by simp [XC.WdL]
  | x :: r => by simp [XC.WdL, XC.wdL_iff (l := r)]
theorem cells_cd : Try.prog.cellsOf 26 = 8 := by kernel_rfl
theorem cells_cv : Try.prog.cellsOf 24 = 3 := by kernel_rfl
theorem cells_ci : Try.prog.cellsOf 3 = 1 := by kernel_rfl
theorem cells_cj : Try.prog.cellsOf 2 = 1 := by kernel_rfl
theorem cells_cs : Try.prog.cellsOf 9 = 1 := by kernel_rfl
theorem cells_cl : Try.prog.cellsOf 22 = 1 := by kernel_rfl
section
variable {H : Type} {enc : TypeId × Value → H} {P : Program} {w : World} {base : Nat} {spare : Nat → Bool} {held : Bool}
theorem trod_struct6 {t : TypeId} {f0 f1 f2 f3 f4 f5 : Field} {fuel : Nat} {cs : List Value} {x : DataW H × List MemPlace} (ht : P.underlying t = some (.struct #[f0, f1, f2, f3, f4, f5])) (h : DataW.trod enc P w base spare held fuel t cs = some x) :
    ∃ y0 y1 y2 y3 y4 y5 n, x.1 = .agg [y0.1, y1.1, y2.1, y3.1, y4.1, y5.1] ∧ cs.length = P.cellsOf t ∧ DataW.trod enc P w base spare held n f0.type ((cs.drop f0.offset).take (P.cellsOf f0.type)) = some y0 ∧
      DataW.trod enc P w base spare held n f1.type ((cs.drop f1.offset).take (P.cellsOf f1.type)) = some y1 ∧ DataW.trod enc P w base spare held n f2.type ((cs.drop f2.offset).take (P.cellsOf f2.type)) = some y2 ∧
      DataW.trod enc P w base spare held n f3.type ((cs.drop f3.offset).take (P.cellsOf f3.type)) = some y3 ∧ DataW.trod enc P w base spare held n f4.type ((cs.drop f4.offset).take (P.cellsOf f4.type)) = some y4 ∧
      DataW.trod enc P w base spare held n f5.type ((cs.drop f5.offset).take (P.cellsOf f5.type)) = some y5 := by
  obtain ⟨xs, n, _, rfl, hl, hlen, hf⟩ := DataW.trod_struct ht h
  match xs, hlen with
  | [y0, y1, y2, y3, y4, y5], _ => exact ⟨y0, y1, y2, y3, y4, y5, n, by simp, hl, by simpa using hf 0 f0 rfl, by simpa using hf 1 f1 rfl, by simpa using hf 2 f2 rfl, by simpa using hf 3 f3 rfl, by simpa using hf 4 f4 rfl, by simpa using hf 5 f5 rfl⟩
theorem trod_struct3c {t : TypeId} {f0 f1 f2 : Field} {fuel : Nat} {cs : List Value} {x : DataW H × List MemPlace} (ht : P.underlying t = some (.struct #[f0, f1, f2])) (h : DataW.trod enc P w base spare held fuel t cs = some x) :
    ∃ y0 y1 y2 n, x.1 = .agg [y0.1, y1.1, y2.1] ∧ cs.length = P.cellsOf t ∧ DataW.trod enc P w base spare held n f0.type ((cs.drop f0.offset).take (P.cellsOf f0.type)) = some y0 ∧
      DataW.trod enc P w base spare held n f1.type ((cs.drop f1.offset).take (P.cellsOf f1.type)) = some y1 ∧ DataW.trod enc P w base spare held n f2.type ((cs.drop f2.offset).take (P.cellsOf f2.type)) = some y2 := by
  obtain ⟨xs, n, _, rfl, hl, hlen, hf⟩ := DataW.trod_struct ht h
  match xs, hlen with
  | [y0, y1, y2], _ => exact ⟨y0, y1, y2, n, by simp, hl, by simpa using hf 0 f0 rfl, by simpa using hf 1 f1 rfl, by simpa using hf 2 f2 rfl⟩
end
theorem list8 {α : Type} {l : List α} (h : l.length = 8) : ∃ a b c d e f g k, l = [a, b, c, d, e, f, g, k] := by
  match l, h with
  | [a, b, c, d, e, f, g, k], _ => exact ⟨a, b, c, d, e, f, g, k, rfl⟩
/-- cells that read as a code -/
theorem open_cdc {H : Type} {enc : TypeId × Value → H} {W : World} {base : Nat} : ∀ (N : Nat) {fuel : Nat} {cs : List Value} {y : DataW H × List MemPlace}, Rows.uptoBulk y.1 ≤ N →
    DataW.trod enc Try.prog W base (fun _ => true) true fuel 26 cs = some y → ∃ x : XC, cs = x.enc ∧ XC.Mem (fun k => base ≤ k) W x ∧ XC.Wd x ∧ szC x.er ≤ Rows.uptoBulk y.1
  | 0, fuel, cs, y, hb, h => by have := oe_one y.1; omega
  | N + 1, fuel, cs, y, hb, h => by
    obtain ⟨y0, y1, y2, y3, y4, y5, n, hy, hlen, g0, g1, g2, g3, g4, g5⟩ := trod_struct6 Try.underlying26 h
    rw [cells_cd] at hlen
    obtain ⟨q0, q1, q2, q3, q4, q5, q6, q7, rfl⟩ := list8 hlen
    obtain ⟨z0, z1, z2, n3, hz, hzlen, k0, k1, k2⟩ := trod_struct3c Try.underlying24 g3
    obtain ⟨o0, e0, f0, w0⟩ := DataW.trod_int Try.underlying3 g0
    obtain ⟨o1, e1, f1, w1⟩ := DataW.trod_int Try.underlying3 g1
    obtain ⟨o3, e3, f3, w3⟩ := DataW.trod_int Try.underlying3 k0
    obtain ⟨o4, e4, f4, w4⟩ := DataW.trod_int Try.underlying2 k1
    obtain ⟨s5, e5, f5, w5⟩ := DataW.trod_string Try.underlying9 k2
    obtain ⟨o6, e6, f6, w6⟩ := DataW.trod_int Try.underlying3 g4
    obtain ⟨o7, e7, f7, w7⟩ := DataW.trod_int Try.underlying3 g5
    simp only [cells_ci, cells_cj, cells_cs, cells_cv] at e0 e1 e3 e4 e5 e6 e7
    simp at e0 e1 e3 e4 e5 e6 e7
    subst e0 e1 e3 e4 e5 e6 e7
    rw [hy] at hb ⊢
    simp only [cells_cl] at g2
    simp at g2
    have hs5 : 1 + s5.size ≤ Rows.uptoBulk z2.1 := by
      rw [f5]
      simp only [Rows.uptoBulk]
      have : s5.data.toList.length = s5.size := rfl
      omega
    have hs3 : Rows.uptoBulk z2.1 ≤ Rows.uptoBulk y3.1 := by
      rw [hz]
      simp only [Rows.uptoBulk, Rows.uptoBulkAll]
      omega
    have hsum : Rows.uptoBulk (.agg [y0.1, y1.1, y2.1, y3.1, y4.1, y5.1] : DataW H) = Rows.uptoBulk y0.1 + (Rows.uptoBulk y1.1 + (Rows.uptoBulk y2.1 + (Rows.uptoBulk y3.1 + (Rows.uptoBulk y4.1 + Rows.uptoBulk y5.1)))) + 1 ∨ Rows.uptoBulk (.agg [y0.1, y1.1, y2.1, y3.1, y4.1, y5.1] : DataW H) = Rows.uptoBulk y0.1 + (Rows.uptoBulk y1.1 + (Rows.uptoBulk y2.1 + (Rows.uptoBulk y3.1 + (Rows.uptoBulk y4.1 + Rows.uptoBulk y5.1)))) := by
      simp only [Rows.uptoBulk, Rows.uptoBulkAll]
      omega
    have hp0 := oe_one y0.1
    have hp1 := oe_one y1.1
    rcases Go.Deep.open_slice Try.underlying22 g2 with ⟨hcs, hx⟩ | ⟨a', len', cap', m, n', D, Pl, hcs, hbb, hl, hm, hmm, hx, hi⟩
    · simp at hcs
      subst hcs
      refine ⟨.mk o0 o1 none 0 [] o3 o4 s5 o6 o7, rfl, XC.Mem.leaf _ _ _ _ _ _ _ _ _, ?_, ?_⟩
      · unfold XC.Wd
        exact ⟨⟨w0, w1, w3, w4, w6, w7⟩, by simp [XC.WdL]⟩
      · rw [XC.er, szC, XC.erL, szCL]
        omega
    · simp at hcs
      subst hcs
      simp only [if_true] at hmm
      subst hmm
      rw [cells_cd] at hi
      have hy2 : y2.1 = .slice ((List.range len').map D) ((List.range (m - len')).map fun j => D (len' + j)) := by rw [hx]
      have hbs : Rows.uptoBulkAll ((List.range len').map D) + 1 ≤ Rows.uptoBulk y2.1 := by
        rw [hy2]
        simp only [Rows.uptoBulk]
        omega
      have hk : ∀ i, ∃ x : XC, i < len' → (∀ j u, x.enc[j]? = some u → W.cell? ((a'.add (i * 8)).add j) = some u) ∧ XC.Mem (fun k => base ≤ k) W x ∧ XC.Wd x ∧ szC x.er ≤ Rows.uptoBulk (D i) := by
        intro i
        by_cases hil : i < len'
        · obtain ⟨cs', hc, ht⟩ := hi i (by omega)
          have hmem : Rows.uptoBulk (D i) ≤ Rows.uptoBulkAll ((List.range len').map D) := oe_mem (List.mem_map.2 ⟨i, List.mem_range.2 hil, rfl⟩)
          obtain ⟨x, rfl, hm, hw, hz⟩ := open_cdc N (by show Rows.uptoBulk (D i) ≤ N; omega) ht
          obtain ⟨_, hcl, hat⟩ := World.cells?_some hc
          refine ⟨x, fun _ => ⟨fun j u hj => ?_, hm, hw, hz⟩⟩
          have hj8 : j < 8 := by rw [← XC.enc_len x]; exact (List.getElem?_eq_some_iff.1 hj).1
          rw [hat j hj8]
          exact hj
        · exact ⟨.mk 0 0 none 0 [] 0 0 ⟨#[]⟩ 0 0, fun h => absurd h hil⟩
      obtain ⟨f, hfz⟩ := Classical.axiomOfChoice hk
      obtain ⟨l, hl0⟩ : ∃ l, (List.range len').map f = l := ⟨_, rfl⟩
      have hll : l.length = len' := by rw [← hl0]; simp
      have hat : ∀ i x, l[i]? = some x → i < len' ∧ f i = x := fun i x hx => by
        have hil : i < len' := by rw [← hll]; exact (List.getElem?_eq_some_iff.1 hx).1
        rw [← hl0, List.getElem?_map, List.getElem?_range hil] at hx
        exact ⟨hil, by simpa using hx⟩
      have hmemL : XC.MemL (fun k => base ≤ k) W l := XC.memL_iff.2 fun x hx => by
        obtain ⟨i, hi'⟩ := List.getElem?_of_mem hx
        obtain ⟨h1, h2⟩ := hat i x hi'
        rw [← h2]; exact (hfz i h1).2.1
      have hwdL : XC.WdL l := XC.wdL_iff.2 fun x hx => by
        obtain ⟨i, hi'⟩ := List.getElem?_of_mem hx
        obtain ⟨h1, h2⟩ := hat i x hi'
        rw [← h2]; exact (hfz i h1).2.2.1
      have hszCL : szCL (XC.erL l) ≤ Rows.uptoBulkAll ((List.range len').map D) := by
        rw [← hl0]
        have key : ∀ r : List Nat, (∀ i ∈ r, i < len') → szCL (XC.erL (r.map f)) ≤ Rows.uptoBulkAll (r.map D) := by
          intro r
          induction r with
          | nil => intro _; simp [XC.erL, szCL]
          | cons i r ih =>
            intro hr
            rw [List.map_cons, List.map_cons, XC.erL, szCL]
            unfold Rows.uptoBulkAll
            have h1 := (hfz i (hr i (List.mem_cons_self ..))).2.2.2
            have h2 := ih fun j hj => hr j (List.mem_cons_of_mem _ hj)
            omega
        exact key _ fun i hi => List.mem_range.1 hi
      by_cases h0 : len' = 0
      · have hnil : l = [] := List.eq_nil_of_length_eq_zero (by rw [hll, h0])
        refine ⟨.mk o0 o1 (some a') m l o3 o4 s5 o6 o7, by rw [XC.enc, hll], ?_, ?_, ?_⟩
        · unfold XC.Mem
          exact ⟨by omega, hm, .inl hnil, hmemL⟩
        · unfold XC.Wd
          exact ⟨⟨w0, w1, w3, w4, w6, w7⟩, hwdL⟩
        · rw [XC.er, szC]
          omega
      · have hsp : a'.spot = none := by
          obtain ⟨x0, hx0⟩ : ∃ x, f 0 = x := ⟨_, rfl⟩
          have c := (hfz 0 (by omega)).1 0 _ (List.getElem?_eq_getElem (by rw [XC.enc_len]; decide))
          have c2 := World.cell?_spot c
          simpa [Addr.add] using c2
        obtain ⟨b, off, spot⟩ := a'
        simp only at hsp
        subst hsp
        have ea : ∀ j, (⟨b, off, none⟩ : Addr).add j = ⟨b, off + j, none⟩ := by intro j; unfold Addr.add; split <;> simp_all
        have eb : ∀ j k, ((⟨b, off, none⟩ : Addr).add j).add k = ⟨b, off + j + k, none⟩ := by intro j k; rw [Go.Deep.add_add, ea, Nat.add_assoc]
        have hlt : b < W.heap.size := by
          have c := (hfz 0 (by omega)).1 0 _ (List.getElem?_eq_getElem (by rw [XC.enc_len]; decide))
          rw [eb] at c
          exact World.block_lt_of_cell? W _ c
        refine ⟨.mk o0 o1 (some ⟨b, off, none⟩) m l o3 o4 s5 o6 o7, by rw [XC.enc, hll], ?_, ?_, ?_⟩
        · unfold XC.Mem
          refine ⟨by omega, hm, .inr ⟨b, off, rfl, hbb, hlt, fun j u hj => ?_⟩, hmemL⟩
          have hjl : j < l.length * 8 := by
            have h1 := (List.getElem?_eq_some_iff.1 hj).1
            have h2 := RK.cells_length ck l
            have h3 : (XC.encL l).length = l.length * 8 := h2
            omega
          have hq : j / 8 < l.length := by omega
          have hx : l[j / 8]? = some (l[j / 8]'hq) := List.getElem?_eq_getElem hq
          have hr := RK.cells_at ck l (j / 8) (j % 8) _ hx (Nat.mod_lt _ (by decide))
          have hr' : (XC.encL l)[j / 8 * 8 + j % 8]? = (XC.enc (l[j / 8]'hq))[j % 8]? := hr
          rw [show j / 8 * 8 + j % 8 = j by omega, hj] at hr'
          obtain ⟨h1, h2⟩ := hat _ _ hx
          have c := (hfz (j / 8) h1).1 (j % 8) u (by rw [h2]; exact hr'.symm)
          rw [eb] at c
          rw [show off + j = off + j / 8 * 8 + j % 8 by omega]
          exact c
        · unfold XC.Wd
          exact ⟨⟨w0, w1, w3, w4, w6, w7⟩, hwdL⟩
        · rw [XC.er, szC]
          omega
/-- a code that came in -/
theorem open_code {H : Type} {enc : TypeId × Value → H} {W : World} {base b0 : Nat} {r : Reach} {v : Value} {d : DataW H} {p : List MemPlace}
    (o : Value.okWide Try.prog W r b0 26 v) (h : DataW.Trod enc Try.prog W base (fun _ => true) true 26 v d p) :
    ∃ x : XC, v = x.val ∧ XC.Mem (fun k => base ≤ k) W x ∧ XC.Wd x ∧ szC x.er ≤ Rows.uptoBulk d := by
  obtain ⟨cs, rfl, hsz⟩ := okWide_struct Try.underlying26 o
  obtain ⟨fuel, hf⟩ := h
  obtain ⟨x, hc, hm, hw, hz⟩ := open_cdc _ (Nat.le_refl _) hf
  refine ⟨x, ?_, hm, hw, hz⟩
  have hc' : cs.toList = x.enc := by simpa [Value.cells] using hc
  rw [XC.val_eq, XC.encA_eq, ← hc']

end Go.Proofs.Ytccjeclncmogiaa
