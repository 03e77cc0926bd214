/-
  LocksAgain answers true at any script and any mode, of a bulk of at most 1048576: whoever has a thing and asks for it in that mode again, or in a weaker one, gets it, and nothing changes.
  Conditions: none but the row's own; the listed variables hold what the program's text lays (the card ties them).
-/
import Derived.Test.YtelfinhpjokmdaaDoorZl8
import Derived.Test.YtelfinhpjokmdaaDoorCards
import Derived.Test.YtelfinhpjokmdaaDoorTie
import Derived.WalkKit
import Derived.ProofKit
import Derived.OpenShut
import Derived.ShutString
import Derived.ChangeOld
import Derived.Below
import Derived.Carry
import Derived.Deep.DeepHandedRow
import Derived.Deep.DeepWitnessRowRef
import Derived.Lib.LaidTab
namespace Go.Proofs.YtelfinhpjokmdaaDoor.locksAgain
open Go.ChangeShapes Go.WideShapes Go.ChangeAt Go.RowKit
open Go.Joins
open Go.MapKept
set_option linter.unusedVariables false

theorem own : ownKnob Tryd.prog.godebug = none := by kernel_rfl
theorem laidOut : laidOutB Tryd.prog = true := by kernel_rfl

set_option maxRecDepth 100000 in

set_option maxHeartbeats 8000000 in
theorem walk {H : Type} {enc : TypeId × Value → H} (base : Nat) (v0 : Value) (d0 : DataW H) (p0 : List MemPlace) (v1 : Value) (d1 : DataW H) (p1 : List MemPlace) (W : World)
    (o0 : Value.okWide Tryd.prog W .any base 22 v0) (h0 : DataW.Trod enc Tryd.prog W 0 (fun _ => true) true 22 v0 d0 p0)
    (o1 : Value.okWide Tryd.prog W .any base 3 v1) (h1 : DataW.Trod enc Tryd.prog W 0 (fun _ => true) true 3 v1 d1 p1)
    (hk : Rows.uptoSmall H [d0, d1] = true)
    (hL : laidMetH Tryd.prog Rows.locksAgainUptoRow.laid W) :
    Calls Tryd.prog 5 #[v0, v1] W fun e w' => e = .returned (.bool true) ∧ Below W.heap.size W w' := by
  obtain ⟨a0, cap, ops, rfl, hm, hI, hwf⟩ := open_ops10 o0 h0 (up_arg hk (by simp))
  obtain ⟨md, rfl, -, -, -⟩ := open_int Tryd.underlying3 o1 h1
  have hT : Tabs W := tabs_of_laid hL
  have HS := Lib.hid (speaks10_any W hT)
  have HWF := Lib.hid hwf
  obtain ⟨n, hn⟩ : ∃ n, ops.length = n := ⟨_, rfl⟩
  rw [hn] at hm ⊢
  have HN := Lib.hid hn
  clear o0 h0 o1 h1 hk hwf hn hL
  go_enter Tryd.func5, Tryd.ntmps5
  go_wp2_with fail
  refine HS.out.mono ?_
  rintro x w0 ⟨rfl, b0⟩
  have HI0 := Lib.hid (hI.below b0)
  have HB0 := Lib.hid b0
  have HNEW := Lib.hid (ta_new w0 (hT.below b0))
  clear HS hI b0 hT
  go_wp2_with fail
  refine HNEW.out.mono ?_
  rintro e w1 ⟨b, F1, rfl, hA1, -, -⟩
  have HA1 := Lib.hid hA1
  clear HNEW hA1
  go_wp2_with fail
  go_loopw [21] (fun i wx => ∃ (k : Nat) (F : Bl) (T : TbL RS), k ≤ n ∧ i = .int .i64 k ∧ sizT T ≤ k ∧ Hid (TbA w0 wx b F T)) (fun i _ => n - (intOf i).toNat)
  case atStart => exact ⟨0, F1, _, Nat.zero_le _, rfl, Nat.le_refl _, HA1⟩
  case round =>
    clear HA1
    obtain ⟨k, F, T, hkn, rfl, hsz, HA⟩ := hrel
    by_cases c : k < n
    · have c1 : (k : Int) < (n : Int) := by omega
      obtain ⟨x, hx⟩ : ∃ x, ops[k]? = some x := ⟨_, List.getElem?_eq_getElem (by rw [HN.out]; exact c)⟩
      obtain ⟨gb, go', rfl, g0, g1, g2, g3⟩ := (HI0.out.below HA.out.bel).at hx
      obtain ⟨W2, hW2⟩ : ∃ W2, wr.alloc (.cells #[.int .i64 x.kind, .int .i64 x.txn, .int .i64 x.mode, .string ⟨x.res.toArray⟩] 28) = W2 := ⟨_, rfl⟩
      have hb2 : Below wr.heap.size wr W2 := by rw [← hW2]; exact (Below.refl _ _).alloc (Nat.le_refl _) _
      have hx2 : W2.heap[wr.heap.size]? = some (.cells #[.int .i64 x.kind, .int .i64 x.txn, .int .i64 x.mode, .string ⟨x.res.toArray⟩] 28 (0, 0)) := by rw [← hW2]; exact heap_alloc_new wr _
      have f0 : W2.cell? ⟨wr.heap.size, 0, none⟩ = some (.int .i64 x.kind) := by rw [cell_of_block hx2]; rfl
      have f1 : W2.cell? ⟨wr.heap.size, 1, none⟩ = some (.int .i64 x.txn) := by rw [cell_of_block hx2]; rfl
      have f2 : W2.cell? ⟨wr.heap.size, 2, none⟩ = some (.int .i64 x.mode) := by rw [cell_of_block hx2]; rfl
      have f3 : W2.cell? ⟨wr.heap.size, 3, none⟩ = some (.string ⟨x.res.toArray⟩) := by rw [cell_of_block hx2]; rfl
      have HA2 := Lib.hid (HA.out.below hb2)
      have HOK := Lib.hid (HWF.out x (List.mem_of_getElem? hx))
      have hkw : IntKind.i64.wrap ((k : Int) + 1) = ((k + 1 : Nat) : Int) := by rw [IntWalk.i64_in _ (by omega)]; omega
      have HSA := Lib.hid (show sizT (askL ordT mds T x.txn x.res x.mode).1 ≤ k + 1 from Nat.le_trans (siz_ask ordT mds T x.txn x.res x.mode) (by omega))
      have HSD := Lib.hid (show sizT (dropL ordT mds T x.txn).1 ≤ k + 1 from Nat.le_trans (siz_drop ordT mds HA.out.inv x.txn) (by omega))
      have HASK := Lib.hid (HA2.out.ask (by omega) HOK.out x.mode)
      have HDRP := Lib.hid (HA2.out.drop (by omega) x.txn)
      clear hx hb2 hx2
      go_upto_region 9 with fail
      try rw [hW2]
      clear hW2 g0 g1 g2 g3
      go_wp2_with fail
      all_goals first
      | (refine HASK.out.mono ?_
         rintro e w3 ⟨rfl, F3, hA3, -, -⟩
         have HA3 := Lib.hid hA3
         clear hA3 HASK HDRP
         go_wp2_with fail
         go_roundw
         case rel => exact ⟨k + 1, F3, _, by omega, by first | rfl | go_num, HSA.out, HA3⟩
         case measure => simp [intOf]; omega)
      | (refine HDRP.out.mono ?_
         rintro e w3 ⟨v3, F3, rfl, hA3, -, -, -, -⟩
         have HA3 := Lib.hid hA3
         clear hA3 HASK HDRP
         go_wp2_with fail
         go_roundw
         case rel => exact ⟨k + 1, F3, _, by omega, by first | rfl | go_num, HSD.out, HA3⟩
         case measure => simp [intOf]; omega)
    · obtain rfl : k = n := by omega
      have cf : decide ((k : Int) < (k : Int)) = false := by simp
      have hszb : sizT T ≤ 4294967200 := by omega
      have hezb : T.wt.length * sizT T ≤ 549755813000 := by
        have h1 : T.wt.length ≤ 209715 := by unfold sizT at hsz; omega
        exact Nat.le_trans (Nat.mul_le_mul h1 (show sizT T ≤ 209715 by omega)) (by decide)
      have HZB := Lib.hid (And.intro hszb hezb)
      have HLK := Lib.hid (HA.out.locks hszb)
      have HINV := Lib.hid HA.out.inv
      clear hszb hezb
      go_wp2_with fail
      refine HLK.out.mono ?_
      rintro e w4 ⟨vl, rfl, hol, hb4⟩
      have HA4 := Lib.hid (HA.out.below hb4)
      have HED := Lib.hid (HA4.out.edges HZB.out.1 HZB.out.2)
      have HOL := Lib.hid hol
      have HB4 := Lib.hid hb4
      clear hol hb4 HLK
      go_wp2_with fail
      refine HED.out.mono ?_
      rintro e w5 ⟨ve, E, rfl, hoE, hE, hb5⟩
      have HEE := Lib.hid hE
      have HAG := Lib.hid (show Ag w0 w5 b F T vl T.hv ve E from
        ⟨HA4.out.below hb5, (Frm.of_below (F := fun _ => False) hb5).owL (HOL.out.le HA.out.bel.size) (fun _ _ e => e), hoE.le (Nat.le_trans HA.out.bel.size HB4.out.size), fun q hq c => by
          have := (HOL.out.lt q hq).1; have := HA.out.hi c; omega, fun q hq c => by
          have := (hoE.lt q hq).1; have := HA.out.hi c; have := HB4.out.size; omega⟩)
      obtain ⟨m, hm4⟩ : ∃ m, T.hv.length = m := ⟨_, rfl⟩
      obtain ⟨la, lc, hle, hlc, hlm⟩ := HAG.out.rl.sl
      rw [hm4] at hle hlc
      subst hle
      unfold maxLen at hlm
      have HM := Lib.hid hm4
      have hm9 : m ≤ 9223372036854775807 := by omega
      clear hm4 hlc hlm hoE hE hb5 HED HA4 HOL HB4 HA
      go_wp2_with fail
      go_loopw [48] (fun i wx => ∃ (j : Nat) (F : Bl), j ≤ m ∧ i = .int .i64 j ∧ Hid (Ag w0 wx b F T (.slice la m lc) T.hv ve E)) (fun i _ => m - (intOf i).toNat)
      case atStart => exact ⟨0, F, Nat.zero_le _, rfl, HAG⟩
      case round =>
        clear HAG
        obtain ⟨j, F, hj, rfl, HA⟩ := hrel
        by_cases cj : j < m
        · have cj1 : (j : Int) < (m : Int) := by omega
          obtain ⟨y, hy⟩ : ∃ y, T.hv[j]? = some y := ⟨_, List.getElem?_eq_getElem (by rw [HM.out]; exact cj)⟩
          obtain ⟨gg, cap1, e1, -, -, y0, y1, y2, -⟩ := HA.out.rl.at hy
          injection e1 with e1 e1' e1''
          subst e1
          obtain ⟨WB, hWB⟩ : ∃ WB, wr.alloc (.cells #[.int .i64 y.txn, .string ⟨y.res.toArray⟩, .int .i64 y.mode] 35) = WB := ⟨_, rfl⟩
          have hbB : Below wr.heap.size wr WB := by rw [← hWB]; exact (Below.refl _ _).alloc (Nat.le_refl _) _
          have hxB : WB.heap[wr.heap.size]? = some (.cells #[.int .i64 y.txn, .string ⟨y.res.toArray⟩, .int .i64 y.mode] 35 (0, 0)) := by rw [← hWB]; exact heap_alloc_new wr _
          have hlB : wr.heap.size < WB.heap.size := by rw [← hWB]; simp
          have hnF : ¬ F wr.heap.size := fun c => by have := HA.out.tb.hi c; omega
          have HNF := Lib.hid hnF
          have z0 : WB.cell? ⟨wr.heap.size, 0, none⟩ = some (.int .i64 y.txn) := by rw [cell_of_block hxB]; rfl
          have HKB := Lib.hid (fun (G : Bl) (w' : World) (hf : Frm G WB w') (hg : ¬ G wr.heap.size) => show w'.cell? ⟨wr.heap.size, 0, none⟩ = some (.int .i64 y.txn) ∧ w'.cell? ⟨wr.heap.size, 1, none⟩ = some (.string ⟨y.res.toArray⟩) ∧ w'.cell? ⟨wr.heap.size, 2, none⟩ = some (.int .i64 y.mode) by
            have h9 := (hf.heap hlB hg).trans hxB
            exact ⟨by rw [cell_of_block h9]; rfl, by rw [cell_of_block h9]; rfl, by rw [cell_of_block h9]; rfl⟩)
          have HLB := Lib.hid (HA.out.below hbB)
          have HWS := Lib.hid (HLB.out.tb.wish y.txn)
          have hjw : IntKind.i64.wrap ((j : Int) + 1) = ((j + 1 : Nat) : Int) := by rw [IntWalk.i64_in _ (by omega)]; omega
          have HY := Lib.hid (List.mem_of_getElem? hy)
          have HOK := Lib.hid (HA.out.tb.ok.hv y HY.out)
          clear hy e1' e1'' hbB hxB hlB hnF HA
          go_upto_region 17 with fail
          try rw [hWB]
          clear hWB y0 y1 y2
          go_wp2_with fail
          refine HWS.out.mono ?_
          rintro e w6 ⟨rfl, hb6⟩
          obtain ⟨q, hq⟩ : ∃ q, (wsh T.wt y.txn).getD zL = q := ⟨_, rfl⟩
          rw [hq]
          unfold encL
          obtain ⟨W7, hW7⟩ : ∃ W7, w6.alloc (.cells #[.int .i64 q.txn, .string ⟨q.res.toArray⟩, .int .i64 q.mode] 35) = W7 := ⟨_, rfl⟩
          have hb7 : Below WB.heap.size WB W7 := by rw [← hW7]; exact hb6.alloc hb6.size _
          have HL7 := Lib.hid (HLB.out.below hb7)
          obtain ⟨k0, k1, k2⟩ := HKB.out _ _ (Frm.of_below (F := fun _ => False) hb7) (fun h => h)
          have HB7 := Lib.hid hb7
          clear hq hb6 hb7 HWS HLB z0
          cases hw : (wsh T.wt y.txn).isSome with
          | true =>
            go_wp2_with fail
            try rw [hW7]
            go_roundw
            case rel => exact ⟨j + 1, F, by omega, by first | rfl | go_num, HL7⟩
            case measure => simp [intOf]; omega
          | false =>
            have HWN := Lib.hid (show wsh T.wt y.txn = none by cases h : wsh T.wt y.txn with | none => rfl | some l => rw [h] at hw; cases hw)
            have hask := HL7.out.tb.ask HZB.out.1 HOK.out y.mode
            rw [again_same HINV.out HY.out HWN.out] at hask
            have HASK := Lib.hid hask
            clear hw hask
            go_upto_region 18 with fail
            try rw [hW7]
            clear hW7
            go_wp2_with fail
            refine HASK.out.mono ?_
            rintro e w8 ⟨rfl, F8, hA8, hf8, hn8⟩
            have HL8 := Lib.hid (HL7.out.went hA8 hf8 hn8)
            obtain ⟨p0, p1, p2⟩ := HKB.out F w8 ((Frm.of_below (F := F) HB7.out).trans hf8 (New.refl _ _)) HNF.out
            have hcv := rcov_any y.mode md w8
            obtain ⟨cb, hcb⟩ : ∃ cb, cvI y.mode md = cb := ⟨_, rfl⟩
            rw [hcb] at hcv
            have HCV := Lib.hid hcv
            have HCB := Lib.hid hcb
            have HF8 := Lib.hid hf8
            clear hA8 hf8 hn8 HASK hcv k0 k1 k2 hcb
            go_wp2_with fail
            refine HCV.out.mono ?_
            rintro e w9 ⟨rfl, hb9⟩
            have HL9 := Lib.hid (HL8.out.below hb9)
            obtain ⟨p0', p1', p2'⟩ := HKB.out F w9 (((Frm.of_below (F := F) HB7.out).trans HF8.out (New.refl _ _)).step hb9) HNF.out
            clear hb9 HCV p0 p1 p2
            cases cb with
            | false =>
              go_wp2_with fail
              go_roundw
              case rel => exact ⟨j + 1, F8, by omega, by first | rfl | go_num, HL9⟩
              case measure => simp [intOf]; omega
            | true =>
              by_cases cm : 0 < md
              · have hask := HL9.out.tb.ask HZB.out.1 HOK.out md
                rw [again_less HINV.out HY.out HWN.out HCB.out cm] at hask
                have HASK := Lib.hid hask
                clear hask
                go_wp2_with fail
                refine HASK.out.mono ?_
                rintro e w10 ⟨rfl, F10, hA10, hf10, hn10⟩
                have HL10 := Lib.hid (HL9.out.went hA10 hf10 hn10)
                clear hA10 hf10 hn10 HASK
                go_wp2_with fail
                go_roundw
                case rel => exact ⟨j + 1, F10, by omega, by first | rfl | go_num, HL10⟩
                case measure => simp [intOf]; omega
              · go_wp2_with fail
                go_roundw
                case rel => exact ⟨j + 1, F8, by omega, by first | rfl | go_num, HL9⟩
                case measure => simp [intOf]; omega
        · obtain rfl : j = m := by omega
          have cfj : decide ((j : Int) < (j : Int)) = false := by simp
          have HLK := Lib.hid (HA.out.tb.locks HZB.out.1)
          go_wp2_with fail
          refine HLK.out.mono ?_
          rintro e w6 ⟨vl2, rfl, hol2, hb6⟩
          have HA6 := Lib.hid (HA.out.below hb6)
          have hss := samelocks_any w6 _ _ vl2 _ T.hv T.hv hol2 HA6.out.rl
          rw [decide_eq_true (rfl : T.hv = T.hv)] at hss
          have HSS := Lib.hid hss
          clear hol2 hb6 hss HLK
          go_wp2_with fail
          refine HSS.out.mono ?_
          rintro e w7 ⟨rfl, hb7⟩
          have HA7 := Lib.hid (HA6.out.below hb7)
          have HED := Lib.hid (HA7.out.tb.edges HZB.out.1 HZB.out.2)
          clear hb7 HSS
          go_wp2_with fail
          refine HED.out.mono ?_
          rintro e w8 ⟨ve2, E2, rfl, hoE, hE, hb8⟩
          obtain rfl : E2 = E := EdS.one mds hE HEE.out
          have HA8 := Lib.hid (HA7.out.below hb8)
          have hss := sameedges_any w8 _ _ ve2 _ E2 E2 hoE HA8.out.rg
          rw [decide_eq_true (rfl : E2 = E2)] at hss
          have HSS := Lib.hid hss
          clear hoE hE hb8 hss HED
          go_wp2_with fail
          refine HSS.out.mono ?_
          rintro e w9 ⟨rfl, hb9⟩
          have HB := Lib.hid (HB0.out.trans ((HA8.out.below hb9).tb.bel.mono HB0.out.size))
          clear hb9 HSS
          go_wp2_with fail
          go_ret
          exact ⟨rfl, HB.out⟩

/-- a world for the witness: the listed variables hold what is laid -/
noncomputable def laidWorld (os : Os) : World :=
  { World.holding Tryd.prog os ⟨#[], #[], []⟩ with heap := (((World.holding Tryd.prog os ⟨#[], #[], []⟩).heap.modify 1 fun
      | .cells _ t frozen => .cells #[.bool true, .bool true, .bool true, .bool true, .bool true, .bool true, .bool true, .bool true, .bool true, .bool true, .bool true, .bool true, .bool true, .bool false, .bool true, .bool true, .bool true, .bool false, .bool false, .bool false, .bool false, .bool true, .bool true, .bool false, .bool true, .bool false, .bool true, .bool false, .bool true, .bool true, .bool false, .bool false, .bool false, .bool false, .bool false, .bool true, .bool true, .bool false, .bool true, .bool false, .bool false, .bool false, .bool true, .bool false, .bool false, .bool false, .bool false, .bool false, .bool false] t frozen
      | o => o).modify 0 fun
      | .cells _ t frozen => .cells #[.bool true, .bool false, .bool false, .bool false, .bool false, .bool false, .bool false, .bool true, .bool true, .bool false, .bool false, .bool false, .bool false, .bool false, .bool true, .bool true, .bool true, .bool false, .bool false, .bool false, .bool false, .bool true, .bool true, .bool false, .bool true, .bool false, .bool false, .bool false, .bool true, .bool true, .bool true, .bool true, .bool true, .bool false, .bool false, .bool true, .bool true, .bool false, .bool true, .bool false, .bool true, .bool false, .bool true, .bool true, .bool true, .bool true, .bool true, .bool true, .bool true] t frozen
      | o => o) }
theorem laid_met (os : Os) : laidMetH Tryd.prog Rows.locksAgainUptoRow.laid ((laidWorld os).forCall (fun _ _ => 0) ⟨#[], #[.slice none 0 0, .int .i64 0], []⟩).memory :=
  laidMet_of_run' 8 (by kernel_rfl) (by kernel_rfl)
theorem reads (os : Os) {H : Type} (enc : TypeId × Value → H) : ∃ places, DataW.whole enc Tryd.prog ((laidWorld os).forCall (fun _ _ => 0) ⟨#[], #[.slice none 0 0, .int .i64 0], []⟩).memory Tryd.f5.params.toList Rows.locksAgainSpec.vars false (#[.slice none 0 0, .int .i64 0] : Array Value).toList 8 = some ([.nil, .lit (.int .i64 0)], [], places) :=
  ⟨[], by kernel_rfl⟩

set_option maxRecDepth 100000 in
theorem lifted (os : Os) (started : os.Started) (H : Type) (enc : TypeId × Value → H) (F : Stop.Interp) :
    ReturnsInHanded {} Tryd.checked os 5 .any ((Rows.OpenSpec.upto Rows.locksAgainSpec).preRow enc Tryd.prog Tryd.f5 Rows.locksAgainUptoRow.domain false Rows.locksAgainUptoRow.laid) (((Rows.OpenSpec.upto Rows.locksAgainSpec).at F).post enc Tryd.prog Tryd.f5 false true false false) := by
  obtain ⟨places, hx⟩ := reads os enc
  refine returnsInHanded_of_row (C := Tryd.checked) (s := (Rows.OpenSpec.upto Rows.locksAgainSpec)) own started (by kernel_rfl) Tryd.func5
    (witness_row_at (enc := enc) (C := Tryd.checked) false (laidWorld os) #[.slice none 0 0, .int .i64 0] rfl (by kernel_rfl) (by kernel_rfl) (by kernel_rfl)
      (OpenSpec.preRow_of_cond 8 hx (by kernel_rfl) (fun k hk => by cases hk; kernel_rfl) (by kernel_rfl) (laid_met os))) ?_
  intro W base args ds gs before hval0 hW _ hcond _ hL _ _
  have hval : ∀ (j : Nat) t v, Tryd.f5.params[j]? = some t → args[j]? = some v → Value.okWide Tryd.prog W .any base t v := hval0
  have hW' := hW
  obtain ⟨p, q, hA0, hV, rfl, hfz, hnd⟩ := hW
  have hA : DataW.TrodAll enc Tryd.prog W 0 (fun _ => true) true Tryd.f5.params.toList args.toList ds p := hA0
  rw [Tryd.params5] at hA hval
  obtain ⟨v0, vs0, d0, ds0, p0, q0, hargs, rfl, rfl, h0, r0⟩ := trodAll_cons hA
  obtain ⟨v1, vs1, d1, ds1, p1, q1, rfl, rfl, rfl, h1, r1⟩ := trodAll_cons r0
  obtain ⟨rfl, rfl, rfl⟩ := trodAll_nil r1
  obtain rfl : args = #[v0, v1] := by cases args; simp_all
  obtain ⟨rfl, rfl⟩ := trodVars_none hV
  have hk : Rows.uptoSmall H [d0, d1] = true := hcond _ rfl
  have lt0 : ∀ x ∈ p0, x.block < W.heap.size := by obtain ⟨m, hm⟩ := h0; exact DataW.trod_lt m _ _ _ hm
  have lt1 : ∀ x ∈ p1, x.block < W.heap.size := by obtain ⟨m, hm⟩ := h1; exact DataW.trod_lt m _ _ _ hm
  refine (walk (enc := enc) base v0 d0 p0 v1 d1 p1 W (hval 0 22 v0 rfl rfl) h0 (hval 1 3 v1 rfl rfl) h1 hk hL).mono fun e W' ⟨he, bel⟩ => ?_
  subst he
  exact ⟨_, rfl, _, _, _, [], _, [], hW', trodAll_mk1 (shut_bool Tryd.underlying4 _), (trodAll_cons_mk (Below.trod laidOut (by kernel_rfl) (of_decide_eq_true (by kernel_rfl)) h0 bel lt0) (trodAll_cons_mk (Below.trod laidOut (by kernel_rfl) (of_decide_eq_true (by kernel_rfl)) h1 bel lt1) trodAll_mk0)), rfl, bel.frame _, fun h => by cases h⟩

theorem said : Rows.LocksAgainUptoSaid :=
  OpenClaim.holds_of_cond 5 Tryd.f5 rfl rfl rfl rfl rfl rfl rfl ⟨rfl, rfl, rfl, rfl, rfl⟩ rfl rfl rfl rfl rfl (by kernel_rfl) Tryd.func5 (by kernel_rfl)
    (of_decide_eq_true (by kernel_rfl)) (by unfold Func.isWrapper; first | (rw [if_pos (by decide +kernel)]; kernel_rfl) | (rw [if_neg (by decide +kernel)]; exact ⟨rfl, rfl⟩))
    (fun os started H enc _ F => by rw [OpenClaim.pre_eq_preRow]; exact lifted os started H enc F)
theorem plain (f : FuncId) (fn : Func) (hf : Tryd.pinned.checked.prog.funcNamed "hasp/hasplaw10.LocksAgain" = some f) (hfn : Tryd.pinned.checked.prog.funcs[f]? = some fn) :
    false = Tryd.pinned.checked.prog.looks [] ∧ ∀ (j : Nat) t, fn.params[j]? = some t → Tryd.pinned.checked.prog.wantsStandIn t = false := by
  obtain rfl : f = 5 := Option.some.inj ((show Tryd.prog.funcNamed "hasp/hasplaw10.LocksAgain" = some 5 by kernel_rfl).symm.trans hf) |>.symm
  obtain rfl : fn = Tryd.f5 := (Option.some.inj (Tryd.func5.symm.trans hfn)).symm
  refine ⟨by kernel_rfl, fun j t ht => ?_⟩
  rw [Tryd.params5] at ht
  have hm : t ∈ ([22, 3] : List TypeId) := by simpa using Array.mem_of_getElem? ht
  have hall : (([22, 3] : List TypeId).all fun u => !Tryd.prog.wantsStandIn u) = true := by kernel_rfl
  exact (show Tryd.prog.wantsStandIn t = false by simpa using List.all_eq_true.1 hall t hm)

theorem proved : Rows.LocksAgainUptoCardSaid :=
  Claim7.holds_tied_plain_at .later [] _ _ _ _ said (fun _ h => by cases h) (by kernel_rfl) (fun _ h => by cases h) locksAgainUpto_row_tie rfl ⟨rfl, rfl⟩ (by kernel_rfl) rfl plain (by kernel_rfl)
end Go.Proofs.YtelfinhpjokmdaaDoor.locksAgain
