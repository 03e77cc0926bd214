/-
  LocksEnds answers true at any script of a bulk of at most 1048576: when all that have locks give them up, as long as there are any, every wish is granted, each once, and nothing is left.
  Conditions: none but the row's own; the listed variables hold what the program's text lays (the card ties them).
-/
import Derived.Test.YtelfinhpjokmdaaDoorZl8
import Derived.Test.YtelfinhpjokmdaaDoorCards
import Derived.Test.YtelfinhpjokmdaaDoorTie
import Derived.WalkKit
import Derived.ProofKit
import Derived.OpenShut
import Derived.ShutString
import Derived.ChangeOld
import Derived.Below
import Derived.Carry
import Derived.Deep.DeepHandedRow
import Derived.Deep.DeepWitnessRowRef
import Derived.Lib.LaidTab
namespace Go.Proofs.YtelfinhpjokmdaaDoor.locksEnds
open Go.ChangeShapes Go.WideShapes Go.ChangeAt Go.RowKit
open Go.Joins
open Go.MapKept
set_option linter.unusedVariables false

theorem own : ownKnob Tryd.prog.godebug = none := by kernel_rfl
theorem laidOut : laidOutB Tryd.prog = true := by kernel_rfl

set_option maxRecDepth 100000 in

set_option maxHeartbeats 8000000 in
theorem walk {H : Type} {enc : TypeId × Value → H} (base : Nat) (v0 : Value) (d0 : DataW H) (p0 : List MemPlace) (W : World)
    (o0 : Value.okWide Tryd.prog W .any base 22 v0) (h0 : DataW.Trod enc Tryd.prog W 0 (fun _ => true) true 22 v0 d0 p0)
    (hk : Rows.uptoSmall H [d0] = true)
    (hL : laidMetH Tryd.prog Rows.locksEndsUptoRow.laid W) :
    Calls Tryd.prog 3 #[v0] W fun e w' => e = .returned (.bool true) ∧ Below W.heap.size W w' := by
  obtain ⟨a0, cap, ops, rfl, hm, hI, hwf⟩ := open_ops10 o0 h0 (up_arg hk (by simp))
  have hT : Tabs W := tabs_of_laid hL
  have HS := Lib.hid (speaks10_any W hT)
  have HWF := Lib.hid hwf
  obtain ⟨n, hn⟩ : ∃ n, ops.length = n := ⟨_, rfl⟩
  rw [hn] at hm ⊢
  have HN := Lib.hid hn
  clear o0 h0 hk hwf hn hL
  go_enter Tryd.func3, Tryd.ntmps3
  go_wp2_with fail
  refine HS.out.mono ?_
  rintro x w0 ⟨rfl, b0⟩
  have HI0 := Lib.hid (hI.below b0)
  have HB0 := Lib.hid b0
  have HNEW := Lib.hid (ta_new w0 (hT.below b0))
  clear HS hI b0 hT
  go_wp2_with fail
  refine HNEW.out.mono ?_
  rintro e w1 ⟨b, F1, rfl, hA1, hb1, -⟩
  obtain ⟨W2, hW2⟩ : ∃ W2, w1.alloc (.map #[] 0) = W2 := ⟨_, rfl⟩
  have hb2 : Below w1.heap.size w1 W2 := by rw [← hW2]; exact (Below.refl _ _).alloc (Nat.le_refl _) _
  obtain ⟨a, ha⟩ : ∃ x, w1.heap.size = x := ⟨_, rfl⟩
  have hc2 : WtM W2 a (fun _ => false) := by rw [← hW2]; exact wtm_made w1 a ha
  have hmk : (Instr.makeMap 26 none).run Tryd.prog w1 = .ok (.map (some a)) W2 := by rw [← hW2, ← ha]; rfl
  have HLE := Lib.hid (show Le w0 W2 b a F1 ⟨[], []⟩ (wtP ⟨[], []⟩) from
    Le.congr (P := fun _ => false) ⟨hA1.below hb2, hc2, fun c => by have := hA1.hi c; omega, by rw [← ha]; exact hb1.size⟩ (fun x => (wtP_none rfl x).symm))
  clear HNEW hA1 hb1 hb2 hc2 hW2 ha
  go_wp2_with fail
  go_loopw [21] (fun i wx => ∃ (k : Nat) (F : Bl) (T : TbL RS), k ≤ n ∧ i = .int .i64 k ∧ sizT T ≤ k ∧ Hid (Le w0 wx b a F T (wtP T)) ∧ Hid (∃ A : List Int, Abt T A ∧ A.length ≤ k)) (fun i _ => n - (intOf i).toNat)
  case atStart => exact ⟨0, F1, _, Nat.zero_le _, rfl, Nat.le_refl _, HLE, Lib.hid ⟨[], ⟨(fun x hx => by cases hx), (fun x hx => by cases hx)⟩, Nat.le_refl _⟩⟩
  case round =>
    clear HLE hmk
    obtain ⟨k, F, T, hkn, rfl, hsz, HA, HAB⟩ := hrel
    by_cases c : k < n
    · have c1 : (k : Int) < (n : Int) := by omega
      obtain ⟨x, hx⟩ : ∃ x, ops[k]? = some x := ⟨_, List.getElem?_eq_getElem (by rw [HN.out]; exact c)⟩
      obtain ⟨gb, go', rfl, g0, g1, g2, g3⟩ := (HI0.out.below HA.out.tb.bel).at hx
      obtain ⟨W2, hW2⟩ : ∃ W2, wr.alloc (.cells #[.int .i64 x.kind, .int .i64 x.txn, .int .i64 x.mode, .string ⟨x.res.toArray⟩] 28) = W2 := ⟨_, rfl⟩
      obtain ⟨bx, hbx⟩ : ∃ bx, wr.heap.size = bx := ⟨_, rfl⟩
      have hb2 : Below wr.heap.size wr W2 := by rw [← hW2]; exact (Below.refl _ _).alloc (Nat.le_refl _) _
      have hx2 : W2.heap[wr.heap.size]? = some (.cells #[.int .i64 x.kind, .int .i64 x.txn, .int .i64 x.mode, .string ⟨x.res.toArray⟩] 28 (0, 0)) := by rw [← hW2]; exact heap_alloc_new wr _
      have hlx : wr.heap.size < W2.heap.size := by rw [← hW2]; simp
      have hnF : ¬ F wr.heap.size := fun c => by have := HA.out.tb.hi c; omega
      have hna : wr.heap.size ≠ a := by have := HA.out.mp.lt; omega
      have f0 : W2.cell? ⟨wr.heap.size, 0, none⟩ = some (.int .i64 x.kind) := by rw [cell_of_block hx2]; rfl
      have f1 : W2.cell? ⟨wr.heap.size, 1, none⟩ = some (.int .i64 x.txn) := by rw [cell_of_block hx2]; rfl
      have f2 : W2.cell? ⟨wr.heap.size, 2, none⟩ = some (.int .i64 x.mode) := by rw [cell_of_block hx2]; rfl
      have f3 : W2.cell? ⟨wr.heap.size, 3, none⟩ = some (.string ⟨x.res.toArray⟩) := by rw [cell_of_block hx2]; rfl
      have HKX := Lib.hid (fun (G : Bl) (wz : World) (hf : Frm G W2 wz) (hg : ¬ G wr.heap.size) => show wz.cell? ⟨wr.heap.size, 1, none⟩ = some (.int .i64 x.txn) by
        have := (hf.heap hlx hg).trans hx2
        rw [cell_of_block this]; rfl)
      have HNF := Lib.hid hnF
      have HNA := Lib.hid hna
      have HA2 := Lib.hid (HA.out.below hb2)
      have HOK := Lib.hid (HWF.out x (List.mem_of_getElem? hx))
      have hkw : IntKind.i64.wrap ((k : Int) + 1) = ((k + 1 : Nat) : Int) := by rw [IntWalk.i64_in _ (by omega)]; omega
      have HINV := Lib.hid HA.out.tb.inv
      have HSA := Lib.hid (show sizT (askL ordT mds T x.txn x.res x.mode).1 ≤ k + 1 from Nat.le_trans (siz_ask ordT mds T x.txn x.res x.mode) (by omega))
      have HSD := Lib.hid (show sizT (dropL ordT mds T x.txn).1 ≤ k + 1 from Nat.le_trans (siz_drop ordT mds HA.out.tb.inv x.txn) (by omega))
      have HAA := Lib.hid (show ∃ A : List Int, Abt (askL ordT mds T x.txn x.res x.mode).1 A ∧ A.length ≤ k + 1 by
        obtain ⟨A, h1, h2⟩ := HAB.out
        exact ⟨x.txn :: A, Abt.ask ordT mds HA.out.tb.inv h1 _ _ _, by simp; omega⟩)
      have HAD := Lib.hid (show ∃ A : List Int, Abt (dropL ordT mds T x.txn).1 A ∧ A.length ≤ k + 1 by
        obtain ⟨A, h1, h2⟩ := HAB.out
        exact ⟨_, Abt.drop ordT mds HA.out.tb.inv h1 _, Nat.le_trans (List.length_filter_le _ _) (by omega)⟩)
      have HASK := Lib.hid (HA2.out.tb.ask (by omega) HOK.out x.mode)
      have hszz : sizT T ≤ 4294967200 := by omega
      have HZZ := Lib.hid hszz
      obtain ⟨W3, hdel, hL3, hfr3⟩ : ∃ W3, (∀ ty, (Builtin.delete_ #[26, 3] ty #[.map (some a), .int .i64 x.txn]).run Tryd.prog W2 = .ok (.tuple #[]) W3) ∧ Le w0 W3 b a F T (fun z => wtP T z && !decide (z = x.txn)) ∧ Frm (fun k => k = a) W2 W3 := by
        obtain ⟨w', hr, hm, hf⟩ := HA2.out.mp.del x.txn
        exact ⟨w', hr, HA2.out.turn hf hm, hf⟩
      have f13 : W3.cell? ⟨wr.heap.size, 1, none⟩ = some (.int .i64 x.txn) := HKX.out _ _ hfr3 hna
      have HA3 := Lib.hid (hL3.congr (wtD_nil T x.txn))
      have HDRP := Lib.hid (HA3.out.tb.drop hszz x.txn)
      clear hx hb2 hx2 hlx hnF hna hL3 hfr3 hszz hbx
      go_upto_region 10 with fail
      try rw [hW2]
      clear hW2 g0 g1 g2 g3
      go_wp2_with fail
      all_goals first
      | (refine HASK.out.mono ?_
         rintro e w3 ⟨rfl, F3, hA3, hf3, hn3⟩
         have HL3 := Lib.hid (HA2.out.went hA3 hf3 hn3)
         have f1' : w3.cell? ⟨wr.heap.size, 1, none⟩ = some (.int .i64 x.txn) := HKX.out _ _ hf3 HNF.out
         obtain ⟨z, hz⟩ : ∃ z, (askL ordT mds T x.txn x.res x.mode).2 = z := ⟨_, rfl⟩
         rw [hz]
         have HZ := Lib.hid hz
         clear hA3 hf3 hn3 HASK HDRP hdel hz
         by_cases cz : z = 2
         · subst cz
           obtain ⟨hp, hpe⟩ := wtP_ask2 HINV.out HZ.out
           obtain ⟨w4, hup, hL4⟩ := HL3.out.one x.txn
           have hlk := HL3.out.mp.look x.txn (z := 0) (by rw [hp]; rfl)
           have HL4 := Lib.hid (hL4.congr hpe)
           clear hp hpe hL4
           go_wp2_with fail
           go_roundw
           case rel => exact ⟨k + 1, F3, _, by omega, by first | rfl | go_num, HSA.out, HL4, HAA⟩
           case measure => simp [intOf]; omega
         · have czd : decide (z = 2) = false := by simp [cz]
           have HL4 := Lib.hid (HL3.out.congr (wtP_ask1 HINV.out (by rw [HZ.out]; exact cz)))
           go_wp2_with fail
           go_roundw
           case rel => exact ⟨k + 1, F3, _, by omega, by first | rfl | go_num, HSA.out, HL4, HAA⟩
           case measure => simp [intOf]; omega)
      | (refine HDRP.out.mono ?_
         rintro e w4 ⟨vg, F4, rfl, hA4, hf4, hn4, hq4, hv4⟩
         have hL4 := HA3.out.went hA4 hf4 hn4
         obtain ⟨m, hm4⟩ : ∃ m, (dropL ordT mds T x.txn).2.length = m := ⟨_, rfl⟩
         obtain ⟨ga, gc, hge, hgc, hgm, -⟩ := QR.form hq4
         rw [icells_length, hm4] at hge hgc
         subst hge
         unfold maxLen at hgm
         have HM := Lib.hid hm4
         have hm9 : m ≤ 9223372036854775807 := by omega
         have HL4 := Lib.hid (show Le w0 w4 b a F4 (dropL ordT mds T x.txn).1 (wtD T x.txn ((dropL ordT mds T x.txn).2.take 0)) from hL4)
         obtain ⟨B4, hB4⟩ : ∃ B4, B4 = B4 ∧ QI w4 B4 (.slice ga m gc) (dropL ordT mds T x.txn).2 := ⟨_, rfl, hq4⟩
         have HQ4 := Lib.hid hB4.2
         clear hA4 hf4 hn4 hq4 hv4 hL4 hm4 hB4 HA3 HDRP hgc hgm
         go_wp2_with fail
         go_loopw [51] (fun i wx => ∃ j : Nat, j ≤ m ∧ i = .int .i64 j ∧ Hid (Le w0 wx b a F4 (dropL ordT mds T x.txn).1 (wtD T x.txn ((dropL ordT mds T x.txn).2.take j))) ∧ Hid (QI wx B4 (.slice ga m gc) (dropL ordT mds T x.txn).2)) (fun i _ => m - (intOf i).toNat)
         case atStart => exact ⟨0, Nat.zero_le _, rfl, HL4, HQ4⟩
         case round =>
           clear HL4 HQ4
           obtain ⟨j, hj, rfl, HL, HQ⟩ := hrel
           by_cases cj : j < m
           · have cj1 : (j : Int) < (m : Int) := by omega
             obtain ⟨y, hy⟩ : ∃ y, (dropL ordT mds T x.txn).2[j]? = some y := ⟨_, List.getElem?_eq_getElem (by rw [HM.out]; exact cj)⟩
             obtain ⟨gg, oo, cap1, e1, -, -, -, -, -, d1⟩ := QR.at HQ.out (by rw [icells_length, HM.out]; omega)
             injection e1 with e1 e1' e1''
             subst e1
             have y0 : wr.cell? ⟨gg, oo + j, none⟩ = some (.int .i64 y) := d1 j _ (icells_at hy)
             obtain ⟨hp, hpe⟩ := wtD_next HINV.out hy
             obtain ⟨w5, w6, hup, hlk2, hdl, hL6, hq6⟩ := HL.out.off HQ.out (fun k hk => HL.out.ne HQ.out hk) y
             have hlk := HL.out.mp.look y (z := 1) (by rw [hp]; rfl)
             have HL6 := Lib.hid (hL6.congr hpe)
             have HQ6 := Lib.hid hq6
             have hjw : IntKind.i64.wrap ((j : Int) + 1) = ((j + 1 : Nat) : Int) := by rw [IntWalk.i64_in _ (by omega)]; omega
             clear e1' e1'' d1 hy hp hpe hL6 hq6
             go_wp2_with fail
             go_roundw
             case rel => exact ⟨j + 1, by omega, by first | rfl | go_num, HL6, HQ6⟩
             case measure => simp [intOf]; omega
           · obtain rfl : j = m := by omega
             have cfj : decide ((j : Int) < (j : Int)) = false := by simp
             have HLZ := Lib.hid (show Le w0 wr b a F4 (dropL ordT mds T x.txn).1 (wtP (dropL ordT mds T x.txn).1) from HL.out.congr (fun z => by
               rw [List.take_of_length_le (Nat.le_of_eq HM.out)]; exact wtD_end HINV.out x.txn z))
             clear HL HQ
             go_wp2_with fail
             go_roundw
             case rel => exact ⟨k + 1, F4, _, by omega, by first | rfl | go_num, HSD.out, HLZ, HAD⟩
             case measure => simp [intOf]; omega)
    · obtain rfl : k = n := by omega
      have cf : decide ((k : Int) < (k : Int)) = false := by simp
      have HAB0 := Lib.hid (show ∃ A : List Int, Abt T A ∧ A.length + 0 ≤ k from HAB.out)
      go_wp2_with fail
      go_loopw [9] (fun i wx => ∃ (q : Nat) (F : Bl) (T : TbL RS), q ≤ k ∧ i = .int .i64 q ∧ sizT T ≤ k ∧ Hid (Le w0 wx b a F T (wtP T)) ∧ Hid (∃ A : List Int, Abt T A ∧ A.length + q ≤ k)) (fun i _ => k + 1 - (intOf i).toNat)
      case atStart => exact ⟨0, F, T, Nat.zero_le _, rfl, hsz, HA, HAB0⟩
      case round =>
        clear HA HAB0 HAB hsz
        obtain ⟨q, F, T, hq, rfl, hsz, HA, HAB⟩ := hrel
        have cq : (q : Int) ≤ (k : Int) := by omega
        have HLK := Lib.hid (HA.out.tb.locks (by omega))
        go_wp2_with fail
        refine HLK.out.mono ?_
        rintro e w3 ⟨vl, rfl, hol, hb3⟩
        have HA3 := Lib.hid (HA.out.below hb3)
        have hbs := hb3.size
        by_cases ce : T.hv = []
        · have hwt : T.wt = [] := InvL.empty ordT mds HA.out.tb.inv ce
          obtain ⟨la, lc, rfl, -, -⟩ := hol.sl
          rw [ce, show ([] : List Lv).length = 0 from rfl]
          have hln := fun ty => HA3.out.mp.len (wtP_none hwt) ty
          have HLK2 := Lib.hid (HA3.out.tb.locks (by omega))
          have HCE := Lib.hid (And.intro ce hwt)
          clear hol hb3 HLK ce hwt
          go_wp2_with fail
          refine HLK2.out.mono ?_
          rintro e w4 ⟨vl2, rfl, hol2, hb4⟩
          obtain ⟨la2, lc2, rfl, -, -⟩ := hol2.sl
          rw [HCE.out.1, show ([] : List Lv).length = 0 from rfl]
          have HA4 := Lib.hid (HA3.out.below hb4)
          have HED := Lib.hid (HA4.out.tb.edges (by omega) (by rw [HCE.out.2]; simp))
          clear hol2 hb4 HLK2 hln
          go_wp2_with fail
          refine HED.out.mono ?_
          rintro e w5 ⟨ve, E, rfl, hoE, hE, hb5⟩
          obtain rfl : E = [] := EdS.one mds hE (EdS.nil mds HCE.out.2)
          obtain ⟨la3, lc3, rfl, -, -⟩ := hoE.sl
          rw [show ([] : List Gv).length = 0 from rfl]
          have HB5 := Lib.hid (HB0.out.trans ((HA4.out.below hb5).tb.bel.mono HB0.out.size))
          clear hoE hE hb5 HED
          go_wp2_with fail
          go_ret
          exact ⟨rfl, HB5.out⟩
        · obtain ⟨x, r0, hr0⟩ : ∃ x r0, T.hv = x :: r0 := by
            cases e : T.hv with
            | nil => exact absurd e ce
            | cons x r => exact ⟨x, r, rfl⟩
          obtain ⟨m0, hm0⟩ : ∃ m, T.hv.length = m := ⟨_, rfl⟩
          have hmp : 0 < m0 := by rw [← hm0, hr0]; simp
          have hx0 : T.hv[0]? = some x := by rw [hr0]; rfl
          obtain ⟨g, cp, rfl, hcp, hcq, k0, -, -, -⟩ := hol.at hx0
          rw [hm0] at hcp ⊢
          unfold maxLen at hcq
          replace k0 : w3.cell? ⟨g, 0, none⟩ = some (.int .i64 x.txn) := k0
          have hgB := (hol.lt g rfl).1
          have hgn : g ≠ a := by have := HA.out.mp.lt; omega
          obtain ⟨W4, hdel, hL4, k04⟩ : ∃ W4, (∀ ty, (Builtin.delete_ #[26, 3] ty #[.map (some a), .int .i64 x.txn]).run Tryd.prog w3 = .ok (.tuple #[]) W4) ∧ Le w0 W4 b a F T (fun z => wtP T z && !decide (z = x.txn)) ∧ W4.cell? ⟨g, 0, none⟩ = some (.int .i64 x.txn) := by
            obtain ⟨w', hr, hm, hf⟩ := HA3.out.mp.del x.txn
            exact ⟨w', hr, HA3.out.turn hf hm, (hf.cell (hol.lt g rfl).2 hgn 0).trans k0⟩
          have hm1 : decide ((m0 : Int) = 0) = false := by simp; omega
          have hm2 : (0 : Int) < (m0 : Int) := by omega
          have HA5 := Lib.hid (hL4.congr (wtD_nil T x.txn))
          have HINV := Lib.hid HA.out.tb.inv
          have HDRP := Lib.hid (HA5.out.tb.drop (by omega) x.txn)
          have HSD := Lib.hid (show sizT (dropL ordT mds T x.txn).1 ≤ k from Nat.le_trans (siz_drop ordT mds HA.out.tb.inv x.txn) hsz)
          have HAD2 := Lib.hid (show (∃ A : List Int, Abt (dropL ordT mds T x.txn).1 A ∧ A.length + (q + 1) ≤ k) ∧ q + 1 ≤ k by
            obtain ⟨A, h1, h2⟩ := HAB.out
            have hl := abt_less (h1.1 x (by rw [hr0]; exact List.mem_cons_self ..))
            exact ⟨⟨_, Abt.drop ordT mds HA.out.tb.inv h1 _, by omega⟩, by omega⟩)
          have hq1 : q + 1 ≤ k := HAD2.out.2
          have HAD := Lib.hid HAD2.out.1
          have hqw : IntKind.i64.wrap ((q : Int) + 1) = ((q + 1 : Nat) : Int) := by rw [IntWalk.i64_in _ (by omega)]; omega
          clear hol hb3 HLK ce hr0 hm0 hx0 hL4 hgB hgn HAD2
          go_wp2_with fail
          refine HDRP.out.mono ?_
          rintro e w4 ⟨vg, F4, rfl, hA4, hf4, hn4, hq4, hv4⟩
          have hL4 := HA5.out.went hA4 hf4 hn4
          obtain ⟨m, hm4⟩ : ∃ m, (dropL ordT mds T x.txn).2.length = m := ⟨_, rfl⟩
          obtain ⟨ga, gc, hge, hgc, hgm, -⟩ := QR.form hq4
          rw [icells_length, hm4] at hge hgc
          subst hge
          unfold maxLen at hgm
          have HM := Lib.hid hm4
          have hm9 : m ≤ 9223372036854775807 := by omega
          have HL4 := Lib.hid (show Le w0 w4 b a F4 (dropL ordT mds T x.txn).1 (wtD T x.txn ((dropL ordT mds T x.txn).2.take 0)) from hL4)
          obtain ⟨B4, hB4⟩ : ∃ B4, B4 = B4 ∧ QI w4 B4 (.slice ga m gc) (dropL ordT mds T x.txn).2 := ⟨_, rfl, hq4⟩
          have HQ4 := Lib.hid hB4.2
          clear hA4 hf4 hn4 hq4 hv4 hL4 hm4 hB4 HA5 HDRP hgc hgm
          go_wp2_with fail
          go_loopw [90] (fun i wx => ∃ j : Nat, j ≤ m ∧ i = .int .i64 j ∧ Hid (Le w0 wx b a F4 (dropL ordT mds T x.txn).1 (wtD T x.txn ((dropL ordT mds T x.txn).2.take j))) ∧ Hid (QI wx B4 (.slice ga m gc) (dropL ordT mds T x.txn).2)) (fun i _ => m - (intOf i).toNat)
          case atStart => exact ⟨0, Nat.zero_le _, rfl, HL4, HQ4⟩
          case round =>
            clear HL4 HQ4
            obtain ⟨j, hj, rfl, HL, HQ⟩ := hrel
            by_cases cj : j < m
            · have cj1 : (j : Int) < (m : Int) := by omega
              obtain ⟨y, hy⟩ : ∃ y, (dropL ordT mds T x.txn).2[j]? = some y := ⟨_, List.getElem?_eq_getElem (by rw [HM.out]; exact cj)⟩
              obtain ⟨gg, oo, cap1, e1, -, -, -, -, -, d1⟩ := QR.at HQ.out (by rw [icells_length, HM.out]; omega)
              injection e1 with e1 e1' e1''
              subst e1
              have y0 : wr.cell? ⟨gg, oo + j, none⟩ = some (.int .i64 y) := d1 j _ (icells_at hy)
              obtain ⟨hp, hpe⟩ := wtD_next HINV.out hy
              obtain ⟨w5, w6, hup, hlk2, hdl, hL6, hq6⟩ := HL.out.off HQ.out (fun k hk => HL.out.ne HQ.out hk) y
              have hlk := HL.out.mp.look y (z := 1) (by rw [hp]; rfl)
              have HL6 := Lib.hid (hL6.congr hpe)
              have HQ6 := Lib.hid hq6
              have hjw : IntKind.i64.wrap ((j : Int) + 1) = ((j + 1 : Nat) : Int) := by rw [IntWalk.i64_in _ (by omega)]; omega
              clear e1' e1'' d1 hy hp hpe hL6 hq6
              go_wp2_with fail
              go_roundw
              case rel => exact ⟨j + 1, by omega, by first | rfl | go_num, HL6, HQ6⟩
              case measure => simp [intOf]; omega
            · obtain rfl : j = m := by omega
              have cfj : decide ((j : Int) < (j : Int)) = false := by simp
              have HLZ := Lib.hid (show Le w0 wr b a F4 (dropL ordT mds T x.txn).1 (wtP (dropL ordT mds T x.txn).1) from HL.out.congr (fun z => by
                rw [List.take_of_length_le (Nat.le_of_eq HM.out)]; exact wtD_end HINV.out x.txn z))
              clear HL HQ
              go_wp2_with fail
              go_roundw
              case rel => exact ⟨q + 1, F4, _, by omega, by first | rfl | go_num, HSD.out, HLZ, HAD⟩
              case measure => simp [intOf]; omega

/-- a world for the witness: the listed variables hold what is laid -/
noncomputable def laidWorld (os : Os) : World :=
  { World.holding Tryd.prog os ⟨#[], #[], []⟩ with heap := (((World.holding Tryd.prog os ⟨#[], #[], []⟩).heap.modify 1 fun
      | .cells _ t frozen => .cells #[.bool true, .bool true, .bool true, .bool true, .bool true, .bool true, .bool true, .bool true, .bool true, .bool true, .bool true, .bool true, .bool true, .bool false, .bool true, .bool true, .bool true, .bool false, .bool false, .bool false, .bool false, .bool true, .bool true, .bool false, .bool true, .bool false, .bool true, .bool false, .bool true, .bool true, .bool false, .bool false, .bool false, .bool false, .bool false, .bool true, .bool true, .bool false, .bool true, .bool false, .bool false, .bool false, .bool true, .bool false, .bool false, .bool false, .bool false, .bool false, .bool false] t frozen
      | o => o).modify 0 fun
      | .cells _ t frozen => .cells #[.bool true, .bool false, .bool false, .bool false, .bool false, .bool false, .bool false, .bool true, .bool true, .bool false, .bool false, .bool false, .bool false, .bool false, .bool true, .bool true, .bool true, .bool false, .bool false, .bool false, .bool false, .bool true, .bool true, .bool false, .bool true, .bool false, .bool false, .bool false, .bool true, .bool true, .bool true, .bool true, .bool true, .bool false, .bool false, .bool true, .bool true, .bool false, .bool true, .bool false, .bool true, .bool false, .bool true, .bool true, .bool true, .bool true, .bool true, .bool true, .bool true] t frozen
      | o => o) }
theorem laid_met (os : Os) : laidMetH Tryd.prog Rows.locksEndsUptoRow.laid ((laidWorld os).forCall (fun _ _ => 0) ⟨#[], #[.slice none 0 0], []⟩).memory :=
  laidMet_of_run' 8 (by kernel_rfl) (by kernel_rfl)
theorem reads (os : Os) {H : Type} (enc : TypeId × Value → H) : ∃ places, DataW.whole enc Tryd.prog ((laidWorld os).forCall (fun _ _ => 0) ⟨#[], #[.slice none 0 0], []⟩).memory Tryd.f3.params.toList Rows.locksEndsSpec.vars false (#[.slice none 0 0] : Array Value).toList 8 = some ([.nil], [], places) :=
  ⟨[], by kernel_rfl⟩

set_option maxRecDepth 100000 in
theorem lifted (os : Os) (started : os.Started) (H : Type) (enc : TypeId × Value → H) (F : Stop.Interp) :
    ReturnsInHanded {} Tryd.checked os 3 .any ((Rows.OpenSpec.upto Rows.locksEndsSpec).preRow enc Tryd.prog Tryd.f3 Rows.locksEndsUptoRow.domain false Rows.locksEndsUptoRow.laid) (((Rows.OpenSpec.upto Rows.locksEndsSpec).at F).post enc Tryd.prog Tryd.f3 false true false false) := by
  obtain ⟨places, hx⟩ := reads os enc
  refine returnsInHanded_of_row (C := Tryd.checked) (s := (Rows.OpenSpec.upto Rows.locksEndsSpec)) own started (by kernel_rfl) Tryd.func3
    (witness_row_at (enc := enc) (C := Tryd.checked) false (laidWorld os) #[.slice none 0 0] rfl (by kernel_rfl) (by kernel_rfl) (by kernel_rfl)
      (OpenSpec.preRow_of_cond 8 hx (by kernel_rfl) (fun k hk => by cases hk; kernel_rfl) (by kernel_rfl) (laid_met os))) ?_
  intro W base args ds gs before hval0 hW _ hcond _ hL _ _
  have hval : ∀ (j : Nat) t v, Tryd.f3.params[j]? = some t → args[j]? = some v → Value.okWide Tryd.prog W .any base t v := hval0
  have hW' := hW
  obtain ⟨p, q, hA0, hV, rfl, hfz, hnd⟩ := hW
  have hA : DataW.TrodAll enc Tryd.prog W 0 (fun _ => true) true Tryd.f3.params.toList args.toList ds p := hA0
  rw [Tryd.params3] at hA hval
  obtain ⟨v0, vs0, d0, ds0, p0, q0, hargs, rfl, rfl, h0, r0⟩ := trodAll_cons hA
  obtain ⟨rfl, rfl, rfl⟩ := trodAll_nil r0
  obtain rfl : args = #[v0] := by cases args; simp_all
  obtain ⟨rfl, rfl⟩ := trodVars_none hV
  have hk : Rows.uptoSmall H [d0] = true := hcond _ rfl
  have lt0 : ∀ x ∈ p0, x.block < W.heap.size := by obtain ⟨m, hm⟩ := h0; exact DataW.trod_lt m _ _ _ hm
  refine (walk (enc := enc) base v0 d0 p0 W (hval 0 22 v0 rfl rfl) h0 hk hL).mono fun e W' ⟨he, bel⟩ => ?_
  subst he
  exact ⟨_, rfl, _, _, _, [], _, [], hW', trodAll_mk1 (shut_bool Tryd.underlying4 _), (trodAll_cons_mk (Below.trod laidOut (by kernel_rfl) (of_decide_eq_true (by kernel_rfl)) h0 bel lt0) trodAll_mk0), rfl, bel.frame _, fun h => by cases h⟩

theorem said : Rows.LocksEndsUptoSaid :=
  OpenClaim.holds_of_cond 3 Tryd.f3 rfl rfl rfl rfl rfl rfl rfl ⟨rfl, rfl, rfl, rfl, rfl⟩ rfl rfl rfl rfl rfl (by kernel_rfl) Tryd.func3 (by kernel_rfl)
    (of_decide_eq_true (by kernel_rfl)) (by unfold Func.isWrapper; first | (rw [if_pos (by decide +kernel)]; kernel_rfl) | (rw [if_neg (by decide +kernel)]; exact ⟨rfl, rfl⟩))
    (fun os started H enc _ F => by rw [OpenClaim.pre_eq_preRow]; exact lifted os started H enc F)
theorem plain (f : FuncId) (fn : Func) (hf : Tryd.pinned.checked.prog.funcNamed "hasp/hasplaw10.LocksEnds" = some f) (hfn : Tryd.pinned.checked.prog.funcs[f]? = some fn) :
    false = Tryd.pinned.checked.prog.looks [] ∧ ∀ (j : Nat) t, fn.params[j]? = some t → Tryd.pinned.checked.prog.wantsStandIn t = false := by
  obtain rfl : f = 3 := Option.some.inj ((show Tryd.prog.funcNamed "hasp/hasplaw10.LocksEnds" = some 3 by kernel_rfl).symm.trans hf) |>.symm
  obtain rfl : fn = Tryd.f3 := (Option.some.inj (Tryd.func3.symm.trans hfn)).symm
  refine ⟨by kernel_rfl, fun j t ht => ?_⟩
  rw [Tryd.params3] at ht
  have hm : t ∈ ([22] : List TypeId) := by simpa using Array.mem_of_getElem? ht
  have hall : (([22] : List TypeId).all fun u => !Tryd.prog.wantsStandIn u) = true := by kernel_rfl
  exact (show Tryd.prog.wantsStandIn t = false by simpa using List.all_eq_true.1 hall t hm)

theorem proved : Rows.LocksEndsUptoCardSaid :=
  Claim7.holds_tied_plain_at .later [] _ _ _ _ said (fun _ h => by cases h) (by kernel_rfl) (fun _ h => by cases h) locksEndsUpto_row_tie rfl ⟨rfl, rfl⟩ (by kernel_rfl) rfl plain (by kernel_rfl)
end Go.Proofs.YtelfinhpjokmdaaDoor.locksEnds
