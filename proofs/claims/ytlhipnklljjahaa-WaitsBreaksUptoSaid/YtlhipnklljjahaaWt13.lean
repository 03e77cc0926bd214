/-
  The graph of edges (graphOf): a contract over the translation.
  Conditions: the edges lie in memory.
-/
import Derived.Test.YtlhipnklljjahaaWt12
namespace Go.Proofs.Ytlhipnklljjahaa
open Go.RowKit Go.Joins Go.ChangeShapes Go.WideShapes
open Go.MapKept
set_option linter.unusedVariables false
set_option linter.unnecessarySimpa false
set_option linter.unusedSimpArgs false

theorem frm_from {B : Nat} {w w' : World} (h : Below B w w') : Frm (fun k => B ≤ k) w w' := ⟨h.os, h.tape, h.output, h.size, fun k _ hf => h.block k (by omega)⟩
theorem znil (w : World) : (zeroValue 24).run Try.prog w = .ok nilV w := rfl
set_option maxRecDepth 100000 in
set_option maxHeartbeats 4000000 in
theorem graph_any (W : World) (b0 off cap : Nat) (E : List Eg) (h : IsEg W b0 off E) (hm : E.length ≤ 4294967296) :
    Calls Try.prog 16 #[.slice (some ⟨b0, off, none⟩) E.length cap] W fun e w' => ∃ B b f n, e = .returned (.agg #[.map (some b)]) ∧ W.heap.size ≤ B ∧ GrM B w' b f n (Sx E) ∧ Below W.heap.size W w' := by
  generalize hP : (fun (e : Ending) (w' : World) => ∃ B b f n, e = .returned (.agg #[.map (some b)]) ∧ W.heap.size ≤ B ∧ GrM B w' b f n (Sx E) ∧ Below W.heap.size W w') = PP
  have HP := Lib.hid hP
  obtain ⟨gx, hgx⟩ : ∃ g, W.heap.size = g := ⟨_, rfl⟩
  obtain ⟨W1, hW1⟩ : ∃ W1, W.alloc (.cells #[.map none] 35) = W1 := ⟨_, rfl⟩
  have hb1 : Below W.heap.size W W1 := by rw [← hW1]; exact (Below.refl _ _).alloc (Nat.le_refl _) _
  have hx1 : W1.heap[gx]? = some (.cells #[.map none] 35 (0, 0)) := by rw [← hW1, ← hgx]; exact heap_alloc_new W _
  have HC := Lib.hid (clone_any W1 b0 off cap E (h.below hb1) hm)
  have HB1 := Lib.hid hb1
  have HX1 := Lib.hid hx1
  have HM := Lib.hid hm
  have HG := Lib.hid hgx
  clear hP h hm hb1 hx1
  go_enter Try.func16, Try.ntmps16
  go_wp2_with fail
  try rw [hW1]
  refine HC.out.mono ?_
  rintro e w2 ⟨v2, rfl, o2, b2⟩
  obtain ⟨g, cp, rfl, hg1, hg2, hg3, ed2⟩ := o2.form
  have HX2 := Lib.hid ((b2.block _ (Array.getElem?_eq_some_iff.1 HX1.out).1).trans HX1.out)
  have HB2 := Lib.hid (btr HB1.out b2)
  have HGG := Lib.hid (show gx < g by have := (Array.getElem?_eq_some_iff.1 HX1.out).1; omega)
  have HS := Lib.hid (sort_any w2 g 0 cp E ed2 HM.out)
  clear hW1 hgx HC o2 ed2 b2 hg1
  go_wp2_with fail
  refine HS.out.mono ?_
  rintro e w3 ⟨rfl, E', hp, hs3, ed3, f3⟩
  have HX3 := Lib.hid ((f3.heap (Array.getElem?_eq_some_iff.1 HX2.out).1 (fun e => by have := HGG.out; omega)).trans HX2.out)
  have HB3 := Lib.hid (HB2.out.trans (f3.below (B := W.heap.size) (fun k hk => by have := HGG.out; have := HG.out; omega) HB2.out.size))
  have hl3 := hp.length_eq
  rw [← hl3] at hg2
  obtain ⟨b, hb⟩ : ∃ b, w3.heap.size = b := ⟨_, rfl⟩
  obtain ⟨w4, hw4⟩ : ∃ w, w3.alloc (.map #[] 0) = w := ⟨_, rfl⟩
  have b4 : Below w3.heap.size w3 w4 := by rw [← hw4]; exact (Below.refl _ _).alloc (Nat.le_refl _) _
  have HGR := Lib.hid (show GrM b w4 b (fun _ => none) 0 (Sx []) by rw [← hw4]; exact grm_made w3 b hb)
  have hgb : g < b := by rw [← hb]; exact ed3.lt
  have hmk : (Instr.makeMap 33 none).run Try.prog w3 = .ok (.map (some b)) w4 := by rw [← hw4, ← hb]; rfl
  have HX4 := Lib.hid ((b4.block _ (Array.getElem?_eq_some_iff.1 HX3.out).1).trans HX3.out)
  have HB4 := Lib.hid (btr HB3.out b4)
  have HCO := Lib.hid (compact_any w4 g 0 cp E' (ed3.below b4) hs3 hg2 hg3)
  have HPM := Lib.hid hp
  have HBB := Lib.hid (show W.heap.size ≤ b by rw [← hb]; exact HB3.out.size)
  rw [← hl3]
  clear hw4 hb b4 ed3 f3 hs3 hp HS hl3
  go_wp2_with fail
  refine HCO.out.mono ?_
  rintro e w5 ⟨C, rfl, hC1, hC2, ed5, f5⟩
  have HX5 := Lib.hid ((f5.heap (Array.getElem?_eq_some_iff.1 HX4.out).1 (fun e => by have := HGG.out; omega)).trans HX4.out)
  have HB5 := Lib.hid (HB4.out.trans (f5.below (B := W.heap.size) (fun k hk => by have := HGG.out; have := HG.out; omega) HB4.out.size))
  have HG5 := Lib.hid (HGR.out.step f5 (fun e => by omega) (fun x v hv => by cases hv))
  have HCL := Lib.hid (show C.length ≤ 4294967296 by
    have h1 := nodup_len2 C E' (nodup_of_lt hC1) (fun x hx => (hC2 x).1 hx)
    have h2 := HPM.out.length_eq
    have h3 := HM.out
    omega)
  have HC1 := Lib.hid hC1
  have HE5 := Lib.hid ed5
  have HMEM := Lib.hid (show Sx C = Sx E from Sx_same _ _ fun e => by rw [hC2, HPM.out.mem_iff])
  obtain ⟨m, hm⟩ : ∃ m, C.length = m := ⟨_, rfl⟩
  have HML := Lib.hid hm
  rw [hm]
  have hm9 : (m : Int) ≤ 9223372036854775807 := by have := HCL.out; omega
  have HBS := Lib.hid (show b ≤ w5.heap.size from Nat.le_of_lt HG5.out.mp.lt)
  clear hm hC1 hC2 ed5 f5 HCO HX4 HB4 HX3 HB3 HX2 HB2 HX1 HB1 HGR hmk hg2 hg3
  go_wp2_with fail
  go_loopw [15] (fun i wx => ∃ (k : Nat) (f : Int → Option Value) (n : Nat), k ≤ m ∧ i = .int .i64 k ∧ Hid (GrM b wx b f n (Sx (C.take k))) ∧ Hid (Below b w5 wx)) (fun i _ => m - (intOf i).toNat)
  case atStart => exact ⟨0, _, _, Nat.zero_le _, rfl, HG5, Below.refl _ _⟩
  case round =>
    obtain ⟨k, f, n, hk, rfl, HR, HB⟩ := hrel
    by_cases c : k < m
    · have c1 : (k : Int) < (m : Int) := by omega
      obtain ⟨⟨x, y⟩, hx⟩ : ∃ e, C[k]? = some e := ⟨_, List.getElem?_eq_getElem (by rw [HML.out]; exact c)⟩
      have hbw : b ≤ wr.heap.size := Nat.le_trans HBS.out HB.out.size
      have hie := HE5.out.eg.frm (frm_from HB.out) (fun _ h => by omega)
      have a0 := hie.c0 k x y hx
      have a1 := hie.c1 k x y hx
      rw [Nat.zero_add] at a0 a1
      have hSn := Sx_snoc (pw_take HC1.out hx)
      obtain ⟨w6, hw6⟩ : ∃ w, wr.alloc (.cells #[.int .i64 x, .int .i64 y] 27) = w := ⟨_, rfl⟩
      have b6 : Below wr.heap.size wr w6 := by rw [← hw6]; exact (Below.refl _ _).alloc (Nat.le_refl _) _
      have h6 : w6.heap[wr.heap.size]? = some (.cells #[.int .i64 x, .int .i64 y] 27 (0, 0)) := by rw [← hw6]; exact heap_alloc_new wr _
      have c0 : w6.cell? ⟨wr.heap.size, 0, none⟩ = some (.int .i64 x) := by rw [cell_of_block h6]; rfl
      have c2 : w6.cell? ⟨wr.heap.size, 1, none⟩ = some (.int .i64 y) := by rw [cell_of_block h6]; rfl
      have hl6 : (Instr.lookup 33 (.map (some b)) (.int .i64 x) false).run Try.prog w6.drew = .ok ((f x).getD nilV) w6.drew := (HR.out.below (btr b6 (bdrew w6 1))).look x
      have hb7 : Below wr.heap.size wr (w6.alloc (.cells #[.int .i64 y] 3)).drew := (b6.alloc (by have := b6.size; exact this) _).drew
      obtain ⟨v0, hv0⟩ : ∃ v, (f x).getD nilV = v := ⟨_, rfl⟩
      have HQ := Lib.hid (show QI (w6.alloc (.cells #[.int .i64 y] 3)).drew b v0 (Sx (C.take k) x) by rw [← hv0]; exact (HR.out.below hb7).row x)
      have HQ2 := Lib.hid (show (w6.alloc (.cells #[.int .i64 y] 3)).drew.cell? ⟨w6.heap.size, 0, none⟩ = some (.int .i64 y) by rw [cell_of_block (w := (w6.alloc (.cells #[.int .i64 y] 3)).drew) (heap_alloc_new w6 _)]; rfl)
      have HPUT := Lib.hid (fun w8 v1 (q : QI w8 b v1 (Sx (C.take k) x ++ [y])) (g : (w6.alloc (.cells #[.int .i64 y] 3)).drew.grownBy w8 v0.ownBlock) (nn : NewO (w6.alloc (.cells #[.int .i64 y] 3)).drew v0 v1) =>
        HR.out.put (M' := Sx (C.take (k + 1))) hbw hb7 q (by rw [hv0]; exact g) (by rw [hv0]; exact nn) (fun z => by rw [List.take_add_one, hx]; exact hSn z))
      have HLN := Lib.hid (show (Sx (C.take k) x).length ≤ 4294967296 by
        have h1 := Sx_len x (C.take k)
        rw [List.length_take] at h1
        have := HCL.out
        omega)
      have HSZ := Lib.hid (show b ≤ (w6.alloc (.cells #[.int .i64 y] 3)).drew.heap.size from Nat.le_trans hbw hb7.size)
      rw [hv0] at hl6
      have HSZ6 := Lib.hid (show wr.heap.size + 1 = w6.heap.size by rw [← hw6]; simp)
      have hba : Below w6.heap.size w6 (w6.alloc (.cells #[.int .i64 y] 3)).drew := ((Below.refl _ w6).alloc (Nat.le_refl _) _).drew
      have hl7 : (Instr.lookup 33 (.map (some b)) (.int .i64 x) false).run Try.prog (w6.alloc (.cells #[.int .i64 y] 3)).drew = .ok v0 (w6.alloc (.cells #[.int .i64 y] 3)).drew := by rw [← hv0]; exact (HR.out.below hb7).look x
      have HC8 := Lib.hid (fun w8 (g : (w6.alloc (.cells #[.int .i64 y] 3)).drew.grownBy w8 v0.ownBlock) => show w8.cell? ⟨wr.heap.size, 0, none⟩ = some (.int .i64 x) by
        have hf : Frm (fun k => v0.ownBlock = some k) (w6.alloc (.cells #[.int .i64 y] 3)).drew w8 := Frm.grown (F := fun k => v0.ownBlock = some k) (Frm.refl _ _) g (fun k hk => .inl hk)
        rw [hf.cell (by have h1 := HSZ6.out; have h2 := hba.size; omega) (fun hc => by rw [← hv0] at hc; have := ((HR.out.row x).lt _ hc).2; omega)]
        exact cell_lt c0 hba)
      clear hSn b6 h6 hb7 hv0 hie hx
      go_upto_region 7 with fail
      clear hw6 a0 a1
      have hlt6 : wr.heap.size < w6.heap.size := by rw [← HSZ6.out]; omega
      have c0' := cell_lt c0 hba
      have c2' := cell_lt c2 hba
      go_region_law (first | (refine step_pushQ rfl _ _ rfl b v0 (Sx (C.take k) x) rfl HQ.out HSZ.out ⟨w6.heap.size, 0, none⟩ 1 y rfl HQ2.out (by have := HLN.out; omega) ?_; intro v1 w8 q1 g1 n1; obtain ⟨w9, f9, n9, hr9, hg9, hb9⟩ := HPUT.out w8 v1 q1 g1 n1; have HG9 := Lib.hid hg9; have HB9 := Lib.hid (HB.out.trans hb9); have c8 := HC8.out w8 g1; clear q1 g1 n1 hg9 hb9))
      all_goals
        go_wp2_with fail
        exact ⟨⟨k + 1, f9, n9, by omega, by go_num, HG9, HB9⟩, by simp [intOf]; omega⟩
    · obtain rfl : k = m := by omega
      have HF := Lib.hid (show PP (.returned (.agg #[.map (some b)])) (wr.setCell ⟨gx, 0, none⟩ (.map (some b))) by
        rw [← HP.out]
        have hf : Frm (fun k => k = gx) wr (wr.setCell ⟨gx, 0, none⟩ (.map (some b))) := Frm.set1 (F := fun k => k = gx) wr rfl 0 _
        have hgr := HR.out
        rw [List.take_of_length_le (by rw [HML.out]; exact Nat.le_refl _), HMEM.out] at hgr
        refine ⟨b, b, f, n, rfl, HBB.out, hgr.step hf (fun e => ?_) (fun x v hv k hk e => ?_), ?_⟩
        · have := HGG.out; omega
        · have := ((hgr.yes x v hv).lt k hk).1; have := HGG.out; omega
        · refine (HB5.out.trans (HB.out.mono HBB.out)).trans (hf.below (fun k hk => by have := HG.out; omega) ?_)
          exact Nat.le_trans HB5.out.size HB.out.size)
      have hX := Lib.hid ((HB.out.block _ (by have := HGG.out; omega)).trans HX5.out)
      have x0 : wr.cell? ⟨gx, 0, none⟩ = some (.map none) := by rw [cell_of_block hX.out]; rfl
      have z0 := unfrozen_of_block hX.out 0
      have x1 : (wr.setCell ⟨gx, 0, none⟩ (.map (some b))).cell? ⟨gx, 0, none⟩ = some (.map (some b)) := World.cell?_setCell_same _ _ _ x0
      clear HR HB
      go_wp2_with fail
      exact bodyPost_ret (v := .agg #[.map (some b)]) (by simp [results, Try.results16, go_sem, x1]) rfl HF.out

end Go.Proofs.Ytlhipnklljjahaa
