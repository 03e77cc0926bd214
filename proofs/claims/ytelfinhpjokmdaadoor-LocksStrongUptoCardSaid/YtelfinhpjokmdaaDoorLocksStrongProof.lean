/-
  LocksStrong answers true at any script of a bulk of at most 1048576: what was granted is held in a mode as strong as asked, until it is dropped, whatever others ask.
  Conditions: none but the row's own; the listed variables hold what the program's text lays (the card ties them).
-/
import Derived.Test.YtelfinhpjokmdaaDoorZl8
import Derived.Test.YtelfinhpjokmdaaDoorCards
import Derived.Test.YtelfinhpjokmdaaDoorTie
import Derived.WalkKit
import Derived.ProofKit
import Derived.OpenShut
import Derived.ShutString
import Derived.ChangeOld
import Derived.Below
import Derived.Carry
import Derived.Deep.DeepHandedRow
import Derived.Deep.DeepWitnessRowRef
import Derived.Lib.LaidTab
namespace Go.Proofs.YtelfinhpjokmdaaDoor.locksStrong
open Go.ChangeShapes Go.WideShapes Go.ChangeAt Go.RowKit
open Go.Joins
open Go.MapKept
set_option linter.unusedVariables false

theorem own : ownKnob Tryd.prog.godebug = none := by kernel_rfl
theorem laidOut : laidOutB Tryd.prog = true := by kernel_rfl

set_option maxRecDepth 100000 in

set_option maxHeartbeats 8000000 in
theorem walk {H : Type} {enc : TypeId × Value → H} (base : Nat) (v0 : Value) (d0 : DataW H) (p0 : List MemPlace) (W : World)
    (o0 : Value.okWide Tryd.prog W .any base 22 v0) (h0 : DataW.Trod enc Tryd.prog W 0 (fun _ => true) true 22 v0 d0 p0)
    (hk : Rows.uptoSmall H [d0] = true)
    (hL : laidMetH Tryd.prog Rows.locksStrongUptoRow.laid W) :
    Calls Tryd.prog 4 #[v0] W fun e w' => e = .returned (.bool true) ∧ Below W.heap.size W w' := by
  obtain ⟨a0, cap, ops, rfl, hm, hI, hwf⟩ := open_ops10 o0 h0 (up_arg hk (by simp))
  have hT : Tabs W := tabs_of_laid hL
  have HS := Lib.hid (speaks10_any W hT)
  have HWF := Lib.hid hwf
  obtain ⟨n, hn⟩ : ∃ n, ops.length = n := ⟨_, rfl⟩
  rw [hn] at hm ⊢
  have HN := Lib.hid hn
  clear o0 h0 hk hwf hn hL
  go_enter Tryd.func4, Tryd.ntmps4
  go_wp2_with fail
  refine HS.out.mono ?_
  rintro x w0 ⟨rfl, b0⟩
  have HI0 := Lib.hid (hI.below b0)
  have HB0 := Lib.hid b0
  have HNEW := Lib.hid (ta_new w0 (hT.below b0))
  clear HS hI b0 hT
  go_wp2_with fail
  refine HNEW.out.mono ?_
  rintro e w1 ⟨b, F1, rfl, hA1, hb1, -⟩
  have HLS := Lib.hid (show Ls w0 (w1.alloc (.cells #[] 35)) b F1 ⟨[], []⟩ (.slice (some ⟨w1.heap.size, 0, none⟩) 0 0) [] from
    ⟨hA1.below ((Below.refl _ _).alloc (Nat.le_refl _) _), owl_made w1 _ hb1.size, fun k hk c => by
      simp only [Value.ownBlock, Option.some.injEq] at hk
      have := hA1.hi c; omega⟩)
  clear HNEW hA1 hb1
  go_wp2_with fail
  go_loopw [4, 20] (fun v4 i wx => ∃ (k : Nat) (F : Bl) (T : TbL RS) (G : List Lv), k ≤ n ∧ i = .int .i64 k ∧ sizT T ≤ k ∧ G.length ≤ k ∧ Hid (Ls w0 wx b F T v4 G) ∧ Hid (AllH T G)) (fun _ i _ => n - (intOf i).toNat)
  case atStart => exact ⟨0, F1, _, [], Nat.zero_le _, rfl, Nat.le_refl _, Nat.le_refl _, HLS, Lib.hid (fun l hl => by cases hl)⟩
  case round =>
    clear HLS
    obtain ⟨k, F, T, G, hkn, rfl, hsz, hgl, HA, HG⟩ := hrel
    obtain ⟨m, hm4⟩ : ∃ m, G.length = m := ⟨_, rfl⟩
    obtain ⟨ga, gc, hge, hgc, hgm⟩ := HA.out.row.sl
    rw [hm4] at hge hgc
    subst hge
    unfold maxLen at hgm
    have HM := Lib.hid hm4
    have hmk : m ≤ k := by omega
    clear hm4 hgc hgm
    by_cases c : k < n
    · have c1 : (k : Int) < (n : Int) := by omega
      obtain ⟨x, hx⟩ : ∃ x, ops[k]? = some x := ⟨_, List.getElem?_eq_getElem (by rw [HN.out]; exact c)⟩
      obtain ⟨gb, go', rfl, g0, g1, g2, g3⟩ := (HI0.out.below HA.out.tb.bel).at hx
      obtain ⟨W2, hW2⟩ : ∃ W2, wr.alloc (.cells #[.int .i64 x.kind, .int .i64 x.txn, .int .i64 x.mode, .string ⟨x.res.toArray⟩] 28) = W2 := ⟨_, rfl⟩
      have hb2 : Below wr.heap.size wr W2 := by rw [← hW2]; exact (Below.refl _ _).alloc (Nat.le_refl _) _
      have hx2 : W2.heap[wr.heap.size]? = some (.cells #[.int .i64 x.kind, .int .i64 x.txn, .int .i64 x.mode, .string ⟨x.res.toArray⟩] 28 (0, 0)) := by rw [← hW2]; exact heap_alloc_new wr _
      have hlx : wr.heap.size < W2.heap.size := by rw [← hW2]; simp
      have hnF : ¬ F wr.heap.size := fun c => by have := HA.out.tb.hi c; omega
      have f0 : W2.cell? ⟨wr.heap.size, 0, none⟩ = some (.int .i64 x.kind) := by rw [cell_of_block hx2]; rfl
      have f1 : W2.cell? ⟨wr.heap.size, 1, none⟩ = some (.int .i64 x.txn) := by rw [cell_of_block hx2]; rfl
      have f2 : W2.cell? ⟨wr.heap.size, 2, none⟩ = some (.int .i64 x.mode) := by rw [cell_of_block hx2]; rfl
      have f3 : W2.cell? ⟨wr.heap.size, 3, none⟩ = some (.string ⟨x.res.toArray⟩) := by rw [cell_of_block hx2]; rfl
      have HKX := Lib.hid (fun (G : Bl) (wz : World) (hf : Frm G W2 wz) (hg : ¬ G wr.heap.size) => show wz.cell? ⟨wr.heap.size, 0, none⟩ = some (.int .i64 x.kind) ∧ wz.cell? ⟨wr.heap.size, 1, none⟩ = some (.int .i64 x.txn) ∧ wz.cell? ⟨wr.heap.size, 2, none⟩ = some (.int .i64 x.mode) ∧ wz.cell? ⟨wr.heap.size, 3, none⟩ = some (.string ⟨x.res.toArray⟩) by
        have h9 := (hf.heap hlx hg).trans hx2
        exact ⟨by rw [cell_of_block h9]; rfl, by rw [cell_of_block h9]; rfl, by rw [cell_of_block h9]; rfl, by rw [cell_of_block h9]; rfl⟩)
      have HNF := Lib.hid hnF
      have HA2 := Lib.hid (HA.out.below hb2)
      have HOK := Lib.hid (HWF.out x (List.mem_of_getElem? hx))
      have hkw : IntKind.i64.wrap ((k : Int) + 1) = ((k + 1 : Nat) : Int) := by rw [IntWalk.i64_in _ (by omega)]; omega
      have HINV := Lib.hid HA.out.tb.inv
      have HSA := Lib.hid (show sizT (askL ordT mds T x.txn x.res x.mode).1 ≤ k + 1 from Nat.le_trans (siz_ask ordT mds T x.txn x.res x.mode) (by omega))
      have HSD := Lib.hid (show sizT (dropL ordT mds T x.txn).1 ≤ k + 1 from Nat.le_trans (siz_drop ordT mds HA.out.tb.inv x.txn) (by omega))
      have HASK := Lib.hid (HA2.out.tb.ask (by omega) HOK.out x.mode)
      have HLX := Lib.hid hlx
      clear hx hb2 hx2 hlx hnF
      go_upto_region 10 with fail
      try rw [hW2]
      clear hW2 g0 g1 g2 g3
      by_cases ck : bits .and .i64 x.kind 3 = 3
      · have ckb : (bits .and .i64 x.kind 3 == 3) = true := by simp [ck]
        have HEN := Lib.hid (show EnL W2 (W2.alloc (.cells #[] 35)) (.slice (some ⟨W2.heap.size, 0, none⟩) 0 0) (outG (G.take 0) x.txn) from ⟨owl_made W2 _ (Nat.le_refl _), (Below.refl _ _).alloc (Nat.le_refl _) _⟩)
        clear HASK
        go_wp2_with fail
        go_loopw [7, 31] (fun v7 i wx => ∃ j : Nat, j ≤ m ∧ i = .int .i64 j ∧ Hid (EnL W2 wx v7 (outG (G.take j) x.txn))) (fun _ i _ => m - (intOf i).toNat)
        case atStart => exact ⟨0, Nat.zero_le _, rfl, HEN⟩
        case round =>
          clear HEN
          obtain ⟨j, hj, rfl, HE⟩ := hrel
          obtain ⟨-, p1, -, -⟩ := HKX.out _ _ (Frm.of_below (F := fun _ => False) HE.out.bel) (fun h => h)
          by_cases cj : j < m
          · have cj1 : (j : Int) < (m : Int) := by omega
            obtain ⟨y, hy⟩ : ∃ y, G[j]? = some y := ⟨_, List.getElem?_eq_getElem (by rw [HM.out]; exact cj)⟩
            obtain ⟨gg, cap1, e1, -, -, y0, y1, y2, -⟩ := (HA2.out.below HE.out.bel).row.at hy
            injection e1 with e1 e1' e1''
            subst e1
            obtain ⟨WB, hWB⟩ : ∃ WB, wr.alloc (.cells #[.int .i64 y.txn, .string ⟨y.res.toArray⟩, .int .i64 y.mode] 35) = WB := ⟨_, rfl⟩
            have hbB : Below wr.heap.size wr WB := by rw [← hWB]; exact (Below.refl _ _).alloc (Nat.le_refl _) _
            have hxB : WB.heap[wr.heap.size]? = some (.cells #[.int .i64 y.txn, .string ⟨y.res.toArray⟩, .int .i64 y.mode] 35 (0, 0)) := by rw [← hWB]; exact heap_alloc_new wr _
            have z0 : WB.cell? ⟨wr.heap.size, 0, none⟩ = some (.int .i64 y.txn) := by rw [cell_of_block hxB]; rfl
            have z1 : WB.cell? ⟨wr.heap.size, 1, none⟩ = some (.string ⟨y.res.toArray⟩) := by rw [cell_of_block hxB]; rfl
            have z2 : WB.cell? ⟨wr.heap.size, 2, none⟩ = some (.int .i64 y.mode) := by rw [cell_of_block hxB]; rfl
            have HEB := Lib.hid (HE.out.below hbB)
            obtain ⟨-, q1, -, -⟩ := HKX.out _ _ (Frm.of_below (F := fun _ => False) HEB.out.bel) (fun h => h)
            have hjw : IntKind.i64.wrap ((j : Int) + 1) = ((j + 1 : Nat) : Int) := by rw [IntWalk.i64_in _ (by omega)]; omega
            have HY := Lib.hid hy
            clear hy e1' e1'' hbB hxB HE
            go_upto_region 15 with fail
            try rw [hWB]
            clear hWB y0 y1 y2 p1
            by_cases cy : y.txn = x.txn
            · have cyd : decide (y.txn = x.txn) = true := by simp [cy]
              have HO := outG_no HY.out cy
              rw [← HO] at HEB
              go_wp2_with fail
              go_roundw
              case rel => exact ⟨j + 1, by omega, by first | rfl | go_num, HEB⟩
              case measure => simp [intOf]; omega
            · have cyd : decide (y.txn = x.txn) = false := by simp [cy]
              have HO := outG_yes HY.out cy
              have hbC : Below WB.heap.size WB (WB.alloc (.cells #[.int .i64 y.txn, .string ⟨y.res.toArray⟩, .int .i64 y.mode] 35)) := (Below.refl _ _).alloc (Nat.le_refl _) _
              have HEC := Lib.hid (HEB.out.below hbC)
              have hnw : ∀ (i : Nat) (u : Value), (lcells [y])[i]? = some u → (WB.alloc (.cells #[.int .i64 y.txn, .string ⟨y.res.toArray⟩, .int .i64 y.mode] 35)).cell? ((⟨WB.heap.size, 0, none⟩ : Addr).add i) = some u := by
                intro i u hu
                match i with
                | 0 => simp [lcells] at hu; subst hu; rw [show ((⟨WB.heap.size, 0, none⟩ : Addr).add 0) = ⟨WB.heap.size, 0, none⟩ from rfl, cell_of_block (heap_alloc_new WB _)]; rfl
                | 1 => simp [lcells] at hu; subst hu; rw [show ((⟨WB.heap.size, 0, none⟩ : Addr).add 1) = ⟨WB.heap.size, 1, none⟩ from rfl, cell_of_block (heap_alloc_new WB _)]; rfl
                | 2 => simp [lcells] at hu; subst hu; rw [show ((⟨WB.heap.size, 0, none⟩ : Addr).add 2) = ⟨WB.heap.size, 2, none⟩ from rfl, cell_of_block (heap_alloc_new WB _)]; rfl
                | i + 3 => simp [lcells] at hu
              have HNW := Lib.hid hnw
              have HSZC := Lib.hid HEC.out.bel.size
              have HLN := Lib.hid (show (outG (G.take j) x.txn).length + 1 ≤ 4294967297 by have h1 := outG_length (G.take j) x.txn; have h2 : (G.take j).length ≤ j := (by rw [List.length_take]; omega); omega)
              clear hbC hnw
              go_wp2_with (first | (at_builtin; refine wp_pushL rfl _ _ rfl W2.heap.size _ (outG (G.take j) x.txn) rfl HEC.out.own HSZC.out ⟨_, 0, none⟩ 1 _ [y] rfl rfl HNW.out HLN.out ?_; intro v' w6 q6 g6 n6; have HK6 := Lib.hid (HEC.out.push q6 g6); clear q6 g6 n6))
              rw [← HO] at HK6
              go_roundw
              case rel => exact ⟨j + 1, by omega, by first | rfl | go_num, HK6⟩
              case measure => simp [intOf]; omega
          · obtain rfl : j = m := by omega
            have cfj : decide ((j : Int) < (j : Int)) = false := by simp
            rw [List.take_of_length_le (Nat.le_of_eq HM.out)] at HE
            have HLL := Lib.hid (HA2.out.last HE.out)
            have HDRP := Lib.hid (HLL.out.tb.drop (by omega) x.txn)
            clear HE
            go_wp2_with fail
            refine HDRP.out.mono ?_
            rintro e w4 ⟨vg, F4, rfl, hA4, hf4, hn4, hq4, hv4⟩
            have HLS3 := Lib.hid (HLL.out.went hA4 hf4 hn4)
            have HAL3 := Lib.hid (AllH.drop HG.out HINV.out x.txn)
            have HSZ3 := HSD
            have HGL3 := Lib.hid (show (outG G x.txn).length ≤ k + 1 by have := outG_length G x.txn; omega)
            clear hA4 hf4 hn4 hq4 hv4 HDRP HLL
            obtain ⟨m3, hm3⟩ : ∃ m, (outG G x.txn).length = m := ⟨_, rfl⟩
            obtain ⟨ga3, gc3, hge3, hgc3, hgm3⟩ := HLS3.out.row.sl
            rw [hm3] at hge3 hgc3
            subst hge3
            unfold maxLen at hgm3
            have HM3 := Lib.hid hm3
            have hm93 : m3 ≤ 9223372036854775807 := by omega
            clear hm3 hgc3 hgm3
            go_wp2_with fail
            go_loopw [71] (fun i wx => ∃ j : Nat, j ≤ m3 ∧ i = .int .i64 j ∧ Hid (Ls w0 wx b F4 (dropL ordT mds T x.txn).1 (.slice ga3 m3 gc3) (outG G x.txn))) (fun i _ => m3 - (intOf i).toNat)
            case atStart => exact ⟨0, Nat.zero_le _, rfl, HLS3⟩
            case round =>
              clear HLS3
              obtain ⟨j, hj, rfl, HL⟩ := hrel
              by_cases cj : j < m3
              · have cj1 : (j : Int) < (m3 : Int) := by omega
                obtain ⟨y, hy⟩ : ∃ y, (outG G x.txn)[j]? = some y := ⟨_, List.getElem?_eq_getElem (by rw [HM3.out]; exact cj)⟩
                obtain ⟨gg, cap1, e1, -, -, y0, y1, y2, -⟩ := HL.out.row.at hy
                injection e1 with e1 e1' e1''
                subst e1
                obtain ⟨WB, hWB⟩ : ∃ WB, wr.alloc (.cells #[.int .i64 y.txn, .string ⟨y.res.toArray⟩, .int .i64 y.mode] 35) = WB := ⟨_, rfl⟩
                have hbB : Below wr.heap.size wr WB := by rw [← hWB]; exact (Below.refl _ _).alloc (Nat.le_refl _) _
                have hxB : WB.heap[wr.heap.size]? = some (.cells #[.int .i64 y.txn, .string ⟨y.res.toArray⟩, .int .i64 y.mode] 35 (0, 0)) := by rw [← hWB]; exact heap_alloc_new wr _
                have hlB : wr.heap.size < WB.heap.size := by rw [← hWB]; simp
                have z0 : WB.cell? ⟨wr.heap.size, 0, none⟩ = some (.int .i64 y.txn) := by rw [cell_of_block hxB]; rfl
                have z1 : WB.cell? ⟨wr.heap.size, 1, none⟩ = some (.string ⟨y.res.toArray⟩) := by rw [cell_of_block hxB]; rfl
                have z2 : WB.cell? ⟨wr.heap.size, 2, none⟩ = some (.int .i64 y.mode) := by rw [cell_of_block hxB]; rfl
                have HKB := Lib.hid (fun (w' : World) (hb : Below WB.heap.size WB w') => show Below WB.heap.size WB w' ∧ w'.cell? ⟨wr.heap.size, 0, none⟩ = some (.int .i64 y.txn) ∧ w'.cell? ⟨wr.heap.size, 1, none⟩ = some (.string ⟨y.res.toArray⟩) ∧ w'.cell? ⟨wr.heap.size, 2, none⟩ = some (.int .i64 y.mode) by
                  have h9 := (hb.block _ hlB).trans hxB
                  exact ⟨hb, by rw [cell_of_block h9]; rfl, by rw [cell_of_block h9]; rfl, by rw [cell_of_block h9]; rfl⟩)
                have HLB := Lib.hid (HL.out.below hbB)
                have HMD := Lib.hid (fun (w' : World) (hb : Below WB.heap.size WB w') => (HLB.out.below hb).tb.mode y.txn y.res)
                have hcv := rcov_any (mdO (dropL ordT mds T x.txn).1.hv y.txn y.res) y.mode
                rw [show cvI (mdO (dropL ordT mds T x.txn).1.hv y.txn y.res) y.mode = true from (HAL3.out y (List.mem_of_getElem? hy)).2.2] at hcv
                have HCV := Lib.hid hcv
                have HB0B := Lib.hid (Below.refl WB.heap.size WB)
                have hjw : IntKind.i64.wrap ((j : Int) + 1) = ((j + 1 : Nat) : Int) := by rw [IntWalk.i64_in _ (by omega)]; omega
                clear hy e1' e1'' hbB hxB hlB hcv HL
                go_upto_region 25 with fail
                try rw [hWB]
                clear hWB y0 y1 y2
                go_region_held3 (fun w' => Below WB.heap.size WB w' ∧ w'.cell? ⟨wr.heap.size, 0, none⟩ = some (.int .i64 y.txn) ∧ w'.cell? ⟨wr.heap.size, 1, none⟩ = some (.string ⟨y.res.toArray⟩) ∧ w'.cell? ⟨wr.heap.size, 2, none⟩ = some (.int .i64 y.mode))
                  (first | exact HKB.out _ HB0B.out | exact HKB.out _ HB0B.out.drew | exact HKB.out _ hbx)
                  (first | (go_at_call 13; refine (HMD.out _ (clq (by assumption))).mono ?_; rintro e w1 ⟨rfl, hbx0⟩; have hbx : Below WB.heap.size WB w1 := cls (by assumption) hbx0) | (go_at_call 12; refine (HCV.out _).mono ?_; rintro e w1 ⟨rfl, hbx0⟩; have hbx : Below WB.heap.size WB w1 := cls (by assumption) hbx0))
                all_goals
                  go_wp2_with fail
                  go_roundw
                  case rel => exact ⟨j + 1, by omega, by first | rfl | go_num, Lib.hid (HLB.out.below hbx)⟩
                  case measure => simp [intOf]; omega
              · obtain rfl : j = m3 := by omega
                have cfj : decide ((j : Int) < (j : Int)) = false := by simp
                go_wp2_with fail
                go_roundw
                case rel => exact ⟨k + 1, F4, _, _, by omega, by first | rfl | go_num, HSZ3.out, HGL3.out, HL, HAL3⟩
                case measure => simp [intOf]; omega
      · have ckb : (bits .and .i64 x.kind 3 == 3) = false := by simp [ck]
        go_wp2_with fail
        refine HASK.out.mono ?_
        rintro e w3 ⟨rfl, F3, hA3, hf3, hn3⟩
        have HL3 := Lib.hid (HA2.out.went hA3 hf3 hn3)
        obtain ⟨p0, p1, p2, p3⟩ := HKX.out _ _ hf3 HNF.out
        obtain ⟨z, hz⟩ : ∃ z, (askL ordT mds T x.txn x.res x.mode).2 = z := ⟨_, rfl⟩
        rw [hz]
        have HZ := Lib.hid hz
        clear hA3 hf3 hn3 HASK hz
        have HSZ3 := HSA
        by_cases cz : z = 1
        · subst cz
          have hbC : Below w3.heap.size w3 (w3.alloc (.cells #[.int .i64 x.txn, .string ⟨x.res.toArray⟩, .int .i64 x.mode] 35)) := (Below.refl _ _).alloc (Nat.le_refl _) _
          have HEC := Lib.hid (HL3.out.below hbC)
          have hnw : ∀ (i : Nat) (u : Value), (lcells [⟨x.txn, x.res, x.mode⟩])[i]? = some u → (w3.alloc (.cells #[.int .i64 x.txn, .string ⟨x.res.toArray⟩, .int .i64 x.mode] 35)).cell? ((⟨w3.heap.size, 0, none⟩ : Addr).add i) = some u := by
            intro i u hu
            match i with
            | 0 => simp [lcells] at hu; subst hu; rw [show ((⟨w3.heap.size, 0, none⟩ : Addr).add 0) = ⟨w3.heap.size, 0, none⟩ from rfl, cell_of_block (heap_alloc_new w3 _)]; rfl
            | 1 => simp [lcells] at hu; subst hu; rw [show ((⟨w3.heap.size, 0, none⟩ : Addr).add 1) = ⟨w3.heap.size, 1, none⟩ from rfl, cell_of_block (heap_alloc_new w3 _)]; rfl
            | 2 => simp [lcells] at hu; subst hu; rw [show ((⟨w3.heap.size, 0, none⟩ : Addr).add 2) = ⟨w3.heap.size, 2, none⟩ from rfl, cell_of_block (heap_alloc_new w3 _)]; rfl
            | i + 3 => simp [lcells] at hu
          have HNW := Lib.hid hnw
          have HSZC := Lib.hid HEC.out.tb.bel.size
          have HLN := Lib.hid (show G.length + 1 ≤ 4294967297 by omega)
          have HAL3 := Lib.hid (AllH.got HG.out HINV.out HZ.out)
          have HGL3 := Lib.hid (show (G ++ [(⟨x.txn, x.res, x.mode⟩ : Lv)]).length ≤ k + 1 by simp; omega)
          clear hbC hnw
          go_wp2_with (at_builtin; refine wp_pushL rfl _ _ rfl w0.heap.size (.slice ga m gc) G rfl HEC.out.row HSZC.out ⟨_, 0, none⟩ 1 _ [⟨x.txn, x.res, x.mode⟩] rfl rfl HNW.out HLN.out ?_; intro v' w6 q6 g6 n6; have HLS3 := Lib.hid (HEC.out.push q6 g6 n6); obtain ⟨ga3, gc3, hge3, hgc3, hgm3⟩ := q6.sl; obtain ⟨m3, hm3⟩ : ∃ m, (G ++ [(⟨x.txn, x.res, x.mode⟩ : Lv)]).length = m := ⟨_, rfl⟩; rw [hm3] at hge3 hgc3; subst hge3; unfold maxLen at hgm3; have HM3 := Lib.hid hm3; have hm93 : m3 ≤ 9223372036854775807 := (by omega); clear q6 g6 n6 hm3 hgc3 hgm3)
          go_loopw [71] (fun i wx => ∃ j : Nat, j ≤ m3 ∧ i = .int .i64 j ∧ Hid (Ls w0 wx b F3 (askL ordT mds T x.txn x.res x.mode).1 (.slice ga3 m3 gc3) (G ++ [(⟨x.txn, x.res, x.mode⟩ : Lv)]))) (fun i _ => m3 - (intOf i).toNat)
          case atStart => exact ⟨0, Nat.zero_le _, rfl, HLS3⟩
          case round =>
            clear HLS3
            obtain ⟨j, hj, rfl, HL⟩ := hrel
            by_cases cj : j < m3
            · have cj1 : (j : Int) < (m3 : Int) := by omega
              obtain ⟨y, hy⟩ : ∃ y, (G ++ [(⟨x.txn, x.res, x.mode⟩ : Lv)])[j]? = some y := ⟨_, List.getElem?_eq_getElem (by rw [HM3.out]; exact cj)⟩
              obtain ⟨gg, cap1, e1, -, -, y0, y1, y2, -⟩ := HL.out.row.at hy
              injection e1 with e1 e1' e1''
              subst e1
              obtain ⟨WB, hWB⟩ : ∃ WB, wr.alloc (.cells #[.int .i64 y.txn, .string ⟨y.res.toArray⟩, .int .i64 y.mode] 35) = WB := ⟨_, rfl⟩
              have hbB : Below wr.heap.size wr WB := by rw [← hWB]; exact (Below.refl _ _).alloc (Nat.le_refl _) _
              have hxB : WB.heap[wr.heap.size]? = some (.cells #[.int .i64 y.txn, .string ⟨y.res.toArray⟩, .int .i64 y.mode] 35 (0, 0)) := by rw [← hWB]; exact heap_alloc_new wr _
              have hlB : wr.heap.size < WB.heap.size := by rw [← hWB]; simp
              have z0 : WB.cell? ⟨wr.heap.size, 0, none⟩ = some (.int .i64 y.txn) := by rw [cell_of_block hxB]; rfl
              have z1 : WB.cell? ⟨wr.heap.size, 1, none⟩ = some (.string ⟨y.res.toArray⟩) := by rw [cell_of_block hxB]; rfl
              have z2 : WB.cell? ⟨wr.heap.size, 2, none⟩ = some (.int .i64 y.mode) := by rw [cell_of_block hxB]; rfl
              have HKB := Lib.hid (fun (w' : World) (hb : Below WB.heap.size WB w') => show Below WB.heap.size WB w' ∧ w'.cell? ⟨wr.heap.size, 0, none⟩ = some (.int .i64 y.txn) ∧ w'.cell? ⟨wr.heap.size, 1, none⟩ = some (.string ⟨y.res.toArray⟩) ∧ w'.cell? ⟨wr.heap.size, 2, none⟩ = some (.int .i64 y.mode) by
                have h9 := (hb.block _ hlB).trans hxB
                exact ⟨hb, by rw [cell_of_block h9]; rfl, by rw [cell_of_block h9]; rfl, by rw [cell_of_block h9]; rfl⟩)
              have HLB := Lib.hid (HL.out.below hbB)
              have HMD := Lib.hid (fun (w' : World) (hb : Below WB.heap.size WB w') => (HLB.out.below hb).tb.mode y.txn y.res)
              have hcv := rcov_any (mdO (askL ordT mds T x.txn x.res x.mode).1.hv y.txn y.res) y.mode
              rw [show cvI (mdO (askL ordT mds T x.txn x.res x.mode).1.hv y.txn y.res) y.mode = true from (HAL3.out y (List.mem_of_getElem? hy)).2.2] at hcv
              have HCV := Lib.hid hcv
              have HB0B := Lib.hid (Below.refl WB.heap.size WB)
              have hjw : IntKind.i64.wrap ((j : Int) + 1) = ((j + 1 : Nat) : Int) := by rw [IntWalk.i64_in _ (by omega)]; omega
              clear hy e1' e1'' hbB hxB hlB hcv HL
              go_upto_region 25 with fail
              try rw [hWB]
              clear hWB y0 y1 y2
              go_region_held3 (fun w' => Below WB.heap.size WB w' ∧ w'.cell? ⟨wr.heap.size, 0, none⟩ = some (.int .i64 y.txn) ∧ w'.cell? ⟨wr.heap.size, 1, none⟩ = some (.string ⟨y.res.toArray⟩) ∧ w'.cell? ⟨wr.heap.size, 2, none⟩ = some (.int .i64 y.mode))
                (first | exact HKB.out _ HB0B.out | exact HKB.out _ HB0B.out.drew | exact HKB.out _ hbx)
                (first | (go_at_call 13; refine (HMD.out _ (clq (by assumption))).mono ?_; rintro e w1 ⟨rfl, hbx0⟩; have hbx : Below WB.heap.size WB w1 := cls (by assumption) hbx0) | (go_at_call 12; refine (HCV.out _).mono ?_; rintro e w1 ⟨rfl, hbx0⟩; have hbx : Below WB.heap.size WB w1 := cls (by assumption) hbx0))
              all_goals
                go_wp2_with fail
                go_roundw
                case rel => exact ⟨j + 1, by omega, by first | rfl | go_num, Lib.hid (HLB.out.below hbx)⟩
                case measure => simp [intOf]; omega
            · obtain rfl : j = m3 := by omega
              have cfj : decide ((j : Int) < (j : Int)) = false := by simp
              go_wp2_with fail
              go_roundw
              case rel => exact ⟨k + 1, F3, _, _, by omega, by first | rfl | go_num, HSZ3.out, HGL3.out, HL, HAL3⟩
              case measure => simp [intOf]; omega
        · have czd : (z == 1) = false := by simp [cz]
          have HLS3 := HL3
          have HAL3 := Lib.hid (AllH.ask HG.out HINV.out x.txn x.res x.mode)
          have HGL3 := Lib.hid (show G.length ≤ k + 1 by omega)
          have HM3 := HM
          go_wp2_with fail
          go_loopw [71] (fun i wx => ∃ j : Nat, j ≤ m ∧ i = .int .i64 j ∧ Hid (Ls w0 wx b F3 (askL ordT mds T x.txn x.res x.mode).1 (.slice ga m gc) G)) (fun i _ => m - (intOf i).toNat)
          case atStart => exact ⟨0, Nat.zero_le _, rfl, HLS3⟩
          case round =>
            clear HLS3
            obtain ⟨j, hj, rfl, HL⟩ := hrel
            by_cases cj : j < m
            · have cj1 : (j : Int) < (m : Int) := by omega
              obtain ⟨y, hy⟩ : ∃ y, G[j]? = some y := ⟨_, List.getElem?_eq_getElem (by rw [HM3.out]; exact cj)⟩
              obtain ⟨gg, cap1, e1, -, -, y0, y1, y2, -⟩ := HL.out.row.at hy
              injection e1 with e1 e1' e1''
              subst e1
              obtain ⟨WB, hWB⟩ : ∃ WB, wr.alloc (.cells #[.int .i64 y.txn, .string ⟨y.res.toArray⟩, .int .i64 y.mode] 35) = WB := ⟨_, rfl⟩
              have hbB : Below wr.heap.size wr WB := by rw [← hWB]; exact (Below.refl _ _).alloc (Nat.le_refl _) _
              have hxB : WB.heap[wr.heap.size]? = some (.cells #[.int .i64 y.txn, .string ⟨y.res.toArray⟩, .int .i64 y.mode] 35 (0, 0)) := by rw [← hWB]; exact heap_alloc_new wr _
              have hlB : wr.heap.size < WB.heap.size := by rw [← hWB]; simp
              have z0 : WB.cell? ⟨wr.heap.size, 0, none⟩ = some (.int .i64 y.txn) := by rw [cell_of_block hxB]; rfl
              have z1 : WB.cell? ⟨wr.heap.size, 1, none⟩ = some (.string ⟨y.res.toArray⟩) := by rw [cell_of_block hxB]; rfl
              have z2 : WB.cell? ⟨wr.heap.size, 2, none⟩ = some (.int .i64 y.mode) := by rw [cell_of_block hxB]; rfl
              have HKB := Lib.hid (fun (w' : World) (hb : Below WB.heap.size WB w') => show Below WB.heap.size WB w' ∧ w'.cell? ⟨wr.heap.size, 0, none⟩ = some (.int .i64 y.txn) ∧ w'.cell? ⟨wr.heap.size, 1, none⟩ = some (.string ⟨y.res.toArray⟩) ∧ w'.cell? ⟨wr.heap.size, 2, none⟩ = some (.int .i64 y.mode) by
                have h9 := (hb.block _ hlB).trans hxB
                exact ⟨hb, by rw [cell_of_block h9]; rfl, by rw [cell_of_block h9]; rfl, by rw [cell_of_block h9]; rfl⟩)
              have HLB := Lib.hid (HL.out.below hbB)
              have HMD := Lib.hid (fun (w' : World) (hb : Below WB.heap.size WB w') => (HLB.out.below hb).tb.mode y.txn y.res)
              have hcv := rcov_any (mdO (askL ordT mds T x.txn x.res x.mode).1.hv y.txn y.res) y.mode
              rw [show cvI (mdO (askL ordT mds T x.txn x.res x.mode).1.hv y.txn y.res) y.mode = true from (HAL3.out y (List.mem_of_getElem? hy)).2.2] at hcv
              have HCV := Lib.hid hcv
              have HB0B := Lib.hid (Below.refl WB.heap.size WB)
              have hjw : IntKind.i64.wrap ((j : Int) + 1) = ((j + 1 : Nat) : Int) := by rw [IntWalk.i64_in _ (by omega)]; omega
              clear hy e1' e1'' hbB hxB hlB hcv HL
              go_upto_region 25 with fail
              try rw [hWB]
              clear hWB y0 y1 y2
              go_region_held3 (fun w' => Below WB.heap.size WB w' ∧ w'.cell? ⟨wr.heap.size, 0, none⟩ = some (.int .i64 y.txn) ∧ w'.cell? ⟨wr.heap.size, 1, none⟩ = some (.string ⟨y.res.toArray⟩) ∧ w'.cell? ⟨wr.heap.size, 2, none⟩ = some (.int .i64 y.mode))
                (first | exact HKB.out _ HB0B.out | exact HKB.out _ HB0B.out.drew | exact HKB.out _ hbx)
                (first | (go_at_call 13; refine (HMD.out _ (clq (by assumption))).mono ?_; rintro e w1 ⟨rfl, hbx0⟩; have hbx : Below WB.heap.size WB w1 := cls (by assumption) hbx0) | (go_at_call 12; refine (HCV.out _).mono ?_; rintro e w1 ⟨rfl, hbx0⟩; have hbx : Below WB.heap.size WB w1 := cls (by assumption) hbx0))
              all_goals
                go_wp2_with fail
                go_roundw
                case rel => exact ⟨j + 1, by omega, by first | rfl | go_num, Lib.hid (HLB.out.below hbx)⟩
                case measure => simp [intOf]; omega
            · obtain rfl : j = m := by omega
              have cfj : decide ((j : Int) < (j : Int)) = false := by simp
              go_wp2_with fail
              go_roundw
              case rel => exact ⟨k + 1, F3, _, _, by omega, by first | rfl | go_num, HSZ3.out, HGL3.out, HL, HAL3⟩
              case measure => simp [intOf]; omega
    · obtain rfl : k = n := by omega
      have cf : decide ((k : Int) < (k : Int)) = false := by simp
      have HB := Lib.hid (HB0.out.trans (HA.out.tb.bel.mono HB0.out.size))
      go_wp2_with fail
      go_ret
      exact ⟨rfl, HB.out⟩

/-- a world for the witness: the listed variables hold what is laid -/
noncomputable def laidWorld (os : Os) : World :=
  { World.holding Tryd.prog os ⟨#[], #[], []⟩ with heap := (((World.holding Tryd.prog os ⟨#[], #[], []⟩).heap.modify 1 fun
      | .cells _ t frozen => .cells #[.bool true, .bool true, .bool true, .bool true, .bool true, .bool true, .bool true, .bool true, .bool true, .bool true, .bool true, .bool true, .bool true, .bool false, .bool true, .bool true, .bool true, .bool false, .bool false, .bool false, .bool false, .bool true, .bool true, .bool false, .bool true, .bool false, .bool true, .bool false, .bool true, .bool true, .bool false, .bool false, .bool false, .bool false, .bool false, .bool true, .bool true, .bool false, .bool true, .bool false, .bool false, .bool false, .bool true, .bool false, .bool false, .bool false, .bool false, .bool false, .bool false] t frozen
      | o => o).modify 0 fun
      | .cells _ t frozen => .cells #[.bool true, .bool false, .bool false, .bool false, .bool false, .bool false, .bool false, .bool true, .bool true, .bool false, .bool false, .bool false, .bool false, .bool false, .bool true, .bool true, .bool true, .bool false, .bool false, .bool false, .bool false, .bool true, .bool true, .bool false, .bool true, .bool false, .bool false, .bool false, .bool true, .bool true, .bool true, .bool true, .bool true, .bool false, .bool false, .bool true, .bool true, .bool false, .bool true, .bool false, .bool true, .bool false, .bool true, .bool true, .bool true, .bool true, .bool true, .bool true, .bool true] t frozen
      | o => o) }
theorem laid_met (os : Os) : laidMetH Tryd.prog Rows.locksStrongUptoRow.laid ((laidWorld os).forCall (fun _ _ => 0) ⟨#[], #[.slice none 0 0], []⟩).memory :=
  laidMet_of_run' 8 (by kernel_rfl) (by kernel_rfl)
theorem reads (os : Os) {H : Type} (enc : TypeId × Value → H) : ∃ places, DataW.whole enc Tryd.prog ((laidWorld os).forCall (fun _ _ => 0) ⟨#[], #[.slice none 0 0], []⟩).memory Tryd.f4.params.toList Rows.locksStrongSpec.vars false (#[.slice none 0 0] : Array Value).toList 8 = some ([.nil], [], places) :=
  ⟨[], by kernel_rfl⟩

set_option maxRecDepth 100000 in
theorem lifted (os : Os) (started : os.Started) (H : Type) (enc : TypeId × Value → H) (F : Stop.Interp) :
    ReturnsInHanded {} Tryd.checked os 4 .any ((Rows.OpenSpec.upto Rows.locksStrongSpec).preRow enc Tryd.prog Tryd.f4 Rows.locksStrongUptoRow.domain false Rows.locksStrongUptoRow.laid) (((Rows.OpenSpec.upto Rows.locksStrongSpec).at F).post enc Tryd.prog Tryd.f4 false true false false) := by
  obtain ⟨places, hx⟩ := reads os enc
  refine returnsInHanded_of_row (C := Tryd.checked) (s := (Rows.OpenSpec.upto Rows.locksStrongSpec)) own started (by kernel_rfl) Tryd.func4
    (witness_row_at (enc := enc) (C := Tryd.checked) false (laidWorld os) #[.slice none 0 0] rfl (by kernel_rfl) (by kernel_rfl) (by kernel_rfl)
      (OpenSpec.preRow_of_cond 8 hx (by kernel_rfl) (fun k hk => by cases hk; kernel_rfl) (by kernel_rfl) (laid_met os))) ?_
  intro W base args ds gs before hval0 hW _ hcond _ hL _ _
  have hval : ∀ (j : Nat) t v, Tryd.f4.params[j]? = some t → args[j]? = some v → Value.okWide Tryd.prog W .any base t v := hval0
  have hW' := hW
  obtain ⟨p, q, hA0, hV, rfl, hfz, hnd⟩ := hW
  have hA : DataW.TrodAll enc Tryd.prog W 0 (fun _ => true) true Tryd.f4.params.toList args.toList ds p := hA0
  rw [Tryd.params4] at hA hval
  obtain ⟨v0, vs0, d0, ds0, p0, q0, hargs, rfl, rfl, h0, r0⟩ := trodAll_cons hA
  obtain ⟨rfl, rfl, rfl⟩ := trodAll_nil r0
  obtain rfl : args = #[v0] := by cases args; simp_all
  obtain ⟨rfl, rfl⟩ := trodVars_none hV
  have hk : Rows.uptoSmall H [d0] = true := hcond _ rfl
  have lt0 : ∀ x ∈ p0, x.block < W.heap.size := by obtain ⟨m, hm⟩ := h0; exact DataW.trod_lt m _ _ _ hm
  refine (walk (enc := enc) base v0 d0 p0 W (hval 0 22 v0 rfl rfl) h0 hk hL).mono fun e W' ⟨he, bel⟩ => ?_
  subst he
  exact ⟨_, rfl, _, _, _, [], _, [], hW', trodAll_mk1 (shut_bool Tryd.underlying4 _), (trodAll_cons_mk (Below.trod laidOut (by kernel_rfl) (of_decide_eq_true (by kernel_rfl)) h0 bel lt0) trodAll_mk0), rfl, bel.frame _, fun h => by cases h⟩

theorem said : Rows.LocksStrongUptoSaid :=
  OpenClaim.holds_of_cond 4 Tryd.f4 rfl rfl rfl rfl rfl rfl rfl ⟨rfl, rfl, rfl, rfl, rfl⟩ rfl rfl rfl rfl rfl (by kernel_rfl) Tryd.func4 (by kernel_rfl)
    (of_decide_eq_true (by kernel_rfl)) (by unfold Func.isWrapper; first | (rw [if_pos (by decide +kernel)]; kernel_rfl) | (rw [if_neg (by decide +kernel)]; exact ⟨rfl, rfl⟩))
    (fun os started H enc _ F => by rw [OpenClaim.pre_eq_preRow]; exact lifted os started H enc F)
theorem plain (f : FuncId) (fn : Func) (hf : Tryd.pinned.checked.prog.funcNamed "hasp/hasplaw10.LocksStrong" = some f) (hfn : Tryd.pinned.checked.prog.funcs[f]? = some fn) :
    false = Tryd.pinned.checked.prog.looks [] ∧ ∀ (j : Nat) t, fn.params[j]? = some t → Tryd.pinned.checked.prog.wantsStandIn t = false := by
  obtain rfl : f = 4 := Option.some.inj ((show Tryd.prog.funcNamed "hasp/hasplaw10.LocksStrong" = some 4 by kernel_rfl).symm.trans hf) |>.symm
  obtain rfl : fn = Tryd.f4 := (Option.some.inj (Tryd.func4.symm.trans hfn)).symm
  refine ⟨by kernel_rfl, fun j t ht => ?_⟩
  rw [Tryd.params4] at ht
  have hm : t ∈ ([22] : List TypeId) := by simpa using Array.mem_of_getElem? ht
  have hall : (([22] : List TypeId).all fun u => !Tryd.prog.wantsStandIn u) = true := by kernel_rfl
  exact (show Tryd.prog.wantsStandIn t = false by simpa using List.all_eq_true.1 hall t hm)

theorem proved : Rows.LocksStrongUptoCardSaid :=
  Claim7.holds_tied_plain_at .later [] _ _ _ _ said (fun _ h => by cases h) (by kernel_rfl) (fun _ h => by cases h) locksStrongUpto_row_tie rfl ⟨rfl, rfl⟩ (by kernel_rfl) rfl plain (by kernel_rfl)
end Go.Proofs.YtelfinhpjokmdaaDoor.locksStrong
