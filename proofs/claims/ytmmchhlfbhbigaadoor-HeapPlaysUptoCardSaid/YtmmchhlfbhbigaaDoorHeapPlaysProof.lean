/-
  HeapPlays answers true at any script of calls, of a bulk of at most 1048576: every call answers as the document's heap does, and each row lies in the document's slot.
  Conditions: none but the row's own; the listed variables hold what the program's text lays (the card ties them).
-/
import Derived.Test.YtmmchhlfbhbigaaDoorMi1
import Derived.Test.YtmmchhlfbhbigaaDoorCards
import Derived.Test.YtmmchhlfbhbigaaDoorTie
import Derived.WalkKit
import Derived.ProofKit
import Derived.OpenShut
import Derived.ShutString
import Derived.ChangeOld
import Derived.Below
import Derived.Carry
import Derived.Deep.DeepHandedRow
import Derived.Lib.LaidTab
namespace Go.Proofs.YtmmchhlfbhbigaaDoor.heapPlays
open Go.ChangeShapes Go.WideShapes Go.ChangeAt Go.RowKit
open Go.Joins
set_option linter.unusedVariables false

theorem own : ownKnob Tryd.prog.godebug = none := by kernel_rfl
theorem laidOut : laidOutB Tryd.prog = true := by kernel_rfl

set_option maxRecDepth 100000 in

set_option maxHeartbeats 8000000 in
theorem walk {H : Type} {enc : TypeId × Value → H} (base : Nat) (v0 : Value) (d0 : DataW H) (p0 : List MemPlace) (W : World)
    (o0 : Value.okWide Tryd.prog W .any base 22 v0) (h0 : DataW.Trod enc Tryd.prog W 0 (fun _ => true) true 22 v0 d0 p0)
    (hk : Rows.uptoSmall H [d0] = true)
    (hL : laidMetH Tryd.prog Rows.heapPlaysUptoRow.laid W) :
    Calls Tryd.prog 3 #[v0] W fun e w' => e = .returned (.bool true) ∧ Below W.heap.size W w' := by
  obtain ⟨a, n, cap, b, off, kd, idf, kf, kv, rfl, hn, ha, hO⟩ := open_opsh o0 h0 (up_arg hk (by simp))
  have HIDS := Lib.hid (show ∀ i, i < n → InI (idf i) by
    intro i hi
    obtain rfl : a = some ⟨b, off, none⟩ := by
      rcases ha with g | g
      · omega
      · exact g
    exact ids_in h0 i hi _ (hO.c1 i hi))
  have hT := tabT_of_laid hL
  have HT := Lib.hid hT
  have HS := Lib.hid (speaks8_any W hT)
  clear o0 h0 hk hL hT
  go_enter Tryd.func3, Tryd.ntmps3
  go_wp2_with fail
  refine HS.out.mono ?_
  rintro x w0 ⟨rfl, b0⟩
  have O0 := Lib.hid (hO.below b0)
  have B0 := Lib.hid b0
  have HT0 := Lib.hid (HT.out.below b0)
  clear hO b0
  go_wp2_with fail
  refine (hc_new w0 HT0.out).mono ?_
  rintro x w1 ⟨gh, rfl, h1, -⟩
  obtain ⟨gm, hgm⟩ : ∃ g, w1.heap.size = g := ⟨_, rfl⟩
  have T1 := Lib.hid (two_made h1 hgm)
  clear h1
  go_wp2_with fail
  clear hgm
  go_loopw [24] (fun i wx => ∃ (k : Nat) (s : List Sl) (last : Int), k ≤ n ∧ i = .int .i64 k ∧ Two w0 wx gh s last gm s last (fun _ => False) ∧ s.length ≤ k ∧ last ≤ k ∧ RowsLe 1048576 s) (fun i _ => n - (intOf i).toNat)
  case atStart => exact ⟨0, [], 0, Nat.zero_le _, rfl, T1.out, Nat.le_refl _, Int.le_refl _, RowsLe.nil _⟩
  case round =>
    obtain ⟨k, s, last, hk1, rfl, hF, hs, hl, hrw⟩ := hrel
    have HRW := Lib.hid hrw
    clear hrw
    by_cases q : k < n
    · have c1 : (k : Int) < (n : Int) := by omega
      have K1 := Lib.hid (O0.out.below hF.bel)
      have d0 := K1.out.c0 k q
      have d1 := K1.out.c1 k q
      have d2 := K1.out.c2 k q
      obtain rfl : a = some ⟨b, off, none⟩ := by
        rcases ha with g | g
        · omega
        · exact g
      have hky := (O0.out.key k q).low
      have hkl := K1.out.len k q
      obtain ⟨ak, bk, ok, ck, ekv, -⟩ := _root_.id hky
      have HF := Lib.hid hF
      have ltb := K1.out.lt (by omega)
      rw [ekv] at d2 hky
      obtain ⟨id, hid⟩ : ∃ z, idf k = z := ⟨_, rfl⟩
      have HII := Lib.hid (show InI id by rw [← hid]; exact HIDS.out k q)
      obtain ⟨row, hrow⟩ : ∃ l, kf k = l := ⟨_, rfl⟩
      rw [hid] at d1
      rw [hrow] at d2 hky hkl
      have hrlt := hky.lt
      have HRL := Lib.hid hrlt
      have HKX := Lib.hid (fun (wx : World) (hb : Below w0.heap.size w0 wx) => hky.step (Frm.of_below (F := fun _ => False) hb) (fun _ _ h => h))
      obtain ⟨ln, hln⟩ : ∃ ln, row.length = ln := ⟨_, rfl⟩
      rw [hln] at d2 HKX hkl
      have HLN := Lib.hid hln
      obtain ⟨kk, hkk⟩ : ∃ kk, bits .and .i64 (kd k) 7 = kk := ⟨_, rfl⟩
      clear hF K1 hky ekv T1 hid hrow hln
      go_wp2_with fail
      obtain ⟨w2, hw2⟩ : ∃ w2, wr.alloc (.cells #[.int .i64 (kd k), .int .i64 id, .slice ak ln ck] 32) = w2 := ⟨_, rfl⟩
      obtain ⟨gb, hgb⟩ : ∃ g, wr.heap.size = g := ⟨_, rfl⟩
      have b2 : Below wr.heap.size wr w2 := by rw [← hw2]; exact (Below.refl _ _).alloc (Nat.le_refl _) _
      have hbx2 : w2.heap[gb]? = some (.cells #[.int .i64 (kd k), .int .i64 id, .slice ak ln ck] 32 (0, 0)) := by rw [← hw2, ← hgb]; exact heap_alloc_new wr _
      have lgb2 : gb < w2.heap.size := (Array.getElem?_eq_some_iff.1 hbx2).1
      have hcp := copy_row (HKX.out w2 (HF.out.bel.trans (b2.mono HF.out.bel.size))) (by rw [HLN.out]; omega)
      rw [hw2, hgb]
      refine hcp.mono ?_
      rintro x w3 ⟨v3, rfl, -, b3, hown⟩
      have hok := hown.owK hrlt
      obtain ⟨gi, ci, rfl, hgi⟩ := _root_.id hok
      rw [HLN.out] at hok ⊢
      obtain ⟨K3, hK3⟩ : ∃ K3 : Bl, (fun j => False ∨ (wr.heap.size ≤ j ∧ j < w3.heap.size)) = K3 := ⟨_, rfl⟩
      have T3 := Lib.hid (show Two w0 w3 gh s last gm s last K3 by rw [← hK3]; exact HF.out.to (stepB b2 b3))
      have HKI := Lib.hid (show K3 gi ∧ K3 gb ∧ w0.heap.size ≤ gi ∧ gb ≠ gi by
        have h1 := hgi.1
        have h2 := hgi.2.1
        have h3 := b2.size
        have h4 := HF.out.bel.size
        have h5 := b3.size
        rw [← hK3]
        exact ⟨.inr ⟨by omega, h2⟩, .inr ⟨by omega, by omega⟩, by omega, by omega⟩)
      have HKS := Lib.hid (show ∀ j, K3 j → j < w3.heap.size by
        intro j hj
        rw [← hK3] at hj
        rcases hj with hj | hj
        · exact hj.elim
        · exact hj.2)
      have HBX := Lib.hid (show w3.heap[gb]? = some (.cells #[.int .i64 (kd k), .int .i64 id, .slice ak ln ck] 32 (0, 0)) from (b3.block _ lgb2).trans hbx2)
      have HIN := Lib.hid (show OwK w3 w2.heap.size (.slice (some ⟨gi, 0, none⟩) ln ci) row from hok)
      have x0 : w3.cell? ⟨gb, 0, none⟩ = some (.int .i64 (kd k)) := by rw [cell_of_block HBX.out]; rfl
      have x1 : w3.cell? ⟨gb, 1, none⟩ = some (.int .i64 id) := by rw [cell_of_block HBX.out]; rfl
      have x2 : w3.cell? ⟨gb, 2, none⟩ = some (.slice ak ln ck) := by rw [cell_of_block HBX.out]; rfl
      have T3D := Lib.hid (T3.out.below ((Below.refl _ _).drew))
      have HIK := Lib.hid (show KeyAt w3.drew K3 (.slice (some ⟨gi, 0, none⟩) ln ci) row from (HIN.out.below ((Below.refl _ _).drew)).keyAt (fun g hg => by
        simp only [Value.ownBlock, Option.some.injEq] at hg
        subst hg
        exact HKI.out.1))
      have HCX := Lib.hid (show ∀ wx, KeptH K3 w3 wx → wx.cell? ⟨gb, 1, none⟩ = some (.int .i64 id) ∧ wx.cell? ⟨gb, 2, none⟩ = some (.slice ak ln ck) by
        intro wx hk
        have hb := (hk.2 gb HKI.out.2.1).trans HBX.out
        exact ⟨by rw [cell_of_block hb]; rfl, by rw [cell_of_block hb]; rfl⟩)
      have hbl : row.length ≤ 17592186044416 := by rw [HLN.out]; omega
      clear hcp hown hok hgi b2 b3 hw2 hgb hbx2 lgb2 hK3 d0 d1 d2 hrlt
      go_upto_region 33 with fail
      · have HMA := Lib.hid (fun (w4 : World) (h4 : Two w0 w4 gh (hLay (last + 1) row s) (last + 1) gm s last K3) => two_madd h4 (by omega) T3.out.ok.2 (by omega) (HKX.out w4 h4.bel) hbl (fun j hj => .inr hj))
        have tq : ((last + 1) != (last + 1)) = false := by simp
        go_region_with (first
          | (go_at_call 11; refine (two_add T3D.out (by omega) (by omega) HIK.out (fun j hj => .inl hj)).mono ?_; rintro x w4 ⟨rfl, h4, k4⟩; have T4 := Lib.hid h4; have KP4 := Lib.hid (show KeptH K3 w3 w4 from k4); obtain ⟨z1, z2⟩ := HCX.out w4 KP4.out; clear h4 k4)
          | (go_at_call 12; refine (HMA.out w4 T4.out).mono ?_; rintro x w5 ⟨rfl, h5, k5⟩; have T5 := Lib.hid h5; have KP5 := Lib.hid (KP4.out.trans k5); clear h5 k5))
        all_goals
          go_upto_region 33 with fail
          have hln5 : (hLay (last + 1) row s).length ≤ k + 1 := by have := (hLay_len (last + 1) row s).1; omega
          have HRW5 := Lib.hid (show RowsLe 1048576 (hLay (last + 1) row s) from HRW.out.lay (by rw [HLN.out]; omega))
          have hl5 : last + 1 ≤ (k : Int) + 1 := by omega
          obtain ⟨s5, hs5⟩ : ∃ s5, (hLay (last + 1) row s) = s5 := ⟨_, rfl⟩
          obtain ⟨last5, hla5⟩ : ∃ z, last + 1 = z := ⟨_, rfl⟩
          have T6 := T5
          rw [hs5, hla5] at T6
          rw [hs5] at hln5 HRW5
          rw [hla5] at hl5
          clear T5 hs5 hla5
          obtain ⟨z1, z2⟩ := HCX.out w5 KP5.out
          have hin5 := HIN.out.keptH (fun j hj => KP5.out.2 j (by simp only [Value.ownBlock, Option.some.injEq] at hj; subst hj; exact HKI.out.1)) KP5.out.1
          have y1 : (convert 30 9 (.slice (some ⟨gi, 0, none⟩) ln ci)).run Tryd.prog w5 = .ok (.string (strB row)) w5 := (hin5.keyAt (R := fun _ => True) (fun _ _ => trivial)).str
          have y2 : (convert 30 9 (.slice ak ln ck)).run Tryd.prog w5 = .ok (.string (strB row)) w5 := (HKX.out w5 T6.out.bel).str
          have hsb := SpB.start (by rw [HLN.out]; exact hin5 : OwK w5 w2.heap.size (.slice (some ⟨gi, 0, none⟩) row.length ci) row)
          rw [HLN.out] at hsb
          have HSB := Lib.hid hsb
          clear hin5 hsb
          go_wp2_with fail
          go_loopw [128] (fun i wx => ∃ j : Nat, j ≤ ln ∧ i = .int .i64 j ∧ SpB w5 wx gi ln j) (fun i _ => ln - (intOf i).toNat)
          case atStart => exact ⟨0, Nat.zero_le _, rfl, HSB.out⟩
          case round =>
            obtain ⟨j, hj, rfl, hsp⟩ := hrel
            by_cases c : j < ln
            · have cj : (j : Int) < (ln : Int) := by omega
              obtain ⟨z, hz⟩ := hsp.at_ j (Nat.le_refl _) c
              have hf := hsp.fz j c
              have HSP := Lib.hid hsp
              clear hsp
              go_wp2_with fail
              exact ⟨⟨j + 1, by omega, by simp, HSP.out.next _⟩, by simp [intOf]; omega⟩
            · have cj : ¬ (j : Int) < (ln : Int) := by omega
              have T7 := Lib.hid (T6.out.write hsp.frm (fun j hj => by rw [hj]; exact ⟨HKI.out.1, HKI.out.2.2.1⟩))
              have lgb : gb < w5.heap.size := Nat.lt_of_lt_of_le (HKS.out gb HKI.out.2.1) KP5.out.1
              have u1' : wr.cell? ⟨gb, 1, none⟩ = some (.int .i64 id) := (hsp.frm.cell lgb HKI.out.2.2.2 1).trans z1
              clear hsp z1 z2 y1 y2
              go_wp2_with fail
              refine (shown8_any T7.out (by omega) (by omega) HRW5.out id).mono ?_
              rintro x w8 ⟨rfl, b8⟩
              have T8 := Lib.hid ((T7.out.below b8).mono (K' := fun _ => False) (fun _ h => h.elim))
              clear b8 u1'
              go_wp2_with fail
              exact ⟨⟨k + 1, s5, last5, by omega, by simp, T8.out, by omega, by omega, HRW5.out⟩, by simp [intOf]; omega⟩
      · have HMA := Lib.hid (fun (w4 : World) (h4 : Two w0 w4 gh (hLay (last + 1) row s) (last + 1) gm s last K3) => two_madd h4 (by omega) T3.out.ok.2 (by omega) (HKX.out w4 h4.bel) hbl (fun j hj => .inr hj))
        have tq : ((last + 1) != (last + 1)) = false := by simp
        go_region_with (first
          | (go_at_call 11; refine (two_add T3D.out (by omega) (by omega) HIK.out (fun j hj => .inl hj)).mono ?_; rintro x w4 ⟨rfl, h4, k4⟩; have T4 := Lib.hid h4; have KP4 := Lib.hid (show KeptH K3 w3 w4 from k4); obtain ⟨z1, z2⟩ := HCX.out w4 KP4.out; clear h4 k4)
          | (go_at_call 12; refine (HMA.out w4 T4.out).mono ?_; rintro x w5 ⟨rfl, h5, k5⟩; have T5 := Lib.hid h5; have KP5 := Lib.hid (KP4.out.trans k5); clear h5 k5))
        all_goals
          go_upto_region 33 with fail
          have hln5 : (hLay (last + 1) row s).length ≤ k + 1 := by have := (hLay_len (last + 1) row s).1; omega
          have HRW5 := Lib.hid (show RowsLe 1048576 (hLay (last + 1) row s) from HRW.out.lay (by rw [HLN.out]; omega))
          have hl5 : last + 1 ≤ (k : Int) + 1 := by omega
          obtain ⟨s5, hs5⟩ : ∃ s5, (hLay (last + 1) row s) = s5 := ⟨_, rfl⟩
          obtain ⟨last5, hla5⟩ : ∃ z, last + 1 = z := ⟨_, rfl⟩
          have T6 := T5
          rw [hs5, hla5] at T6
          rw [hs5] at hln5 HRW5
          rw [hla5] at hl5
          clear T5 hs5 hla5
          obtain ⟨z1, z2⟩ := HCX.out w5 KP5.out
          have hin5 := HIN.out.keptH (fun j hj => KP5.out.2 j (by simp only [Value.ownBlock, Option.some.injEq] at hj; subst hj; exact HKI.out.1)) KP5.out.1
          have y1 : (convert 30 9 (.slice (some ⟨gi, 0, none⟩) ln ci)).run Tryd.prog w5 = .ok (.string (strB row)) w5 := (hin5.keyAt (R := fun _ => True) (fun _ _ => trivial)).str
          have y2 : (convert 30 9 (.slice ak ln ck)).run Tryd.prog w5 = .ok (.string (strB row)) w5 := (HKX.out w5 T6.out.bel).str
          have hsb := SpB.start (by rw [HLN.out]; exact hin5 : OwK w5 w2.heap.size (.slice (some ⟨gi, 0, none⟩) row.length ci) row)
          rw [HLN.out] at hsb
          have HSB := Lib.hid hsb
          clear hin5 hsb
          go_wp2_with fail
          go_loopw [128] (fun i wx => ∃ j : Nat, j ≤ ln ∧ i = .int .i64 j ∧ SpB w5 wx gi ln j) (fun i _ => ln - (intOf i).toNat)
          case atStart => exact ⟨0, Nat.zero_le _, rfl, HSB.out⟩
          case round =>
            obtain ⟨j, hj, rfl, hsp⟩ := hrel
            by_cases c : j < ln
            · have cj : (j : Int) < (ln : Int) := by omega
              obtain ⟨z, hz⟩ := hsp.at_ j (Nat.le_refl _) c
              have hf := hsp.fz j c
              have HSP := Lib.hid hsp
              clear hsp
              go_wp2_with fail
              exact ⟨⟨j + 1, by omega, by simp, HSP.out.next _⟩, by simp [intOf]; omega⟩
            · have cj : ¬ (j : Int) < (ln : Int) := by omega
              have T7 := Lib.hid (T6.out.write hsp.frm (fun j hj => by rw [hj]; exact ⟨HKI.out.1, HKI.out.2.2.1⟩))
              have lgb : gb < w5.heap.size := Nat.lt_of_lt_of_le (HKS.out gb HKI.out.2.1) KP5.out.1
              have u1' : wr.cell? ⟨gb, 1, none⟩ = some (.int .i64 id) := (hsp.frm.cell lgb HKI.out.2.2.2 1).trans z1
              clear hsp z1 z2 y1 y2
              go_wp2_with fail
              refine (shown8_any T7.out (by omega) (by omega) HRW5.out id).mono ?_
              rintro x w8 ⟨rfl, b8⟩
              have T8 := Lib.hid ((T7.out.below b8).mono (K' := fun _ => False) (fun _ h => h.elim))
              clear b8 u1'
              go_wp2_with fail
              exact ⟨⟨k + 1, s5, last5, by omega, by simp, T8.out, by omega, by omega, HRW5.out⟩, by simp [intOf]; omega⟩
      · have HMA := Lib.hid (fun (w4 : World) (h4 : Two w0 w4 gh (hLay (last + 1) row s) (last + 1) gm s last K3) => two_madd h4 (by omega) T3.out.ok.2 (by omega) (HKX.out w4 h4.bel) hbl (fun j hj => .inr hj))
        have tq : ((last + 1) != (last + 1)) = false := by simp
        go_region_with (first
          | (go_at_call 11; refine (two_add T3D.out (by omega) (by omega) HIK.out (fun j hj => .inl hj)).mono ?_; rintro x w4 ⟨rfl, h4, k4⟩; have T4 := Lib.hid h4; have KP4 := Lib.hid (show KeptH K3 w3 w4 from k4); obtain ⟨z1, z2⟩ := HCX.out w4 KP4.out; clear h4 k4)
          | (go_at_call 12; refine (HMA.out w4 T4.out).mono ?_; rintro x w5 ⟨rfl, h5, k5⟩; have T5 := Lib.hid h5; have KP5 := Lib.hid (KP4.out.trans k5); clear h5 k5))
        all_goals
          go_upto_region 33 with fail
          have hln5 : (hLay (last + 1) row s).length ≤ k + 1 := by have := (hLay_len (last + 1) row s).1; omega
          have HRW5 := Lib.hid (show RowsLe 1048576 (hLay (last + 1) row s) from HRW.out.lay (by rw [HLN.out]; omega))
          have hl5 : last + 1 ≤ (k : Int) + 1 := by omega
          obtain ⟨s5, hs5⟩ : ∃ s5, (hLay (last + 1) row s) = s5 := ⟨_, rfl⟩
          obtain ⟨last5, hla5⟩ : ∃ z, last + 1 = z := ⟨_, rfl⟩
          have T6 := T5
          rw [hs5, hla5] at T6
          rw [hs5] at hln5 HRW5
          rw [hla5] at hl5
          clear T5 hs5 hla5
          obtain ⟨z1, z2⟩ := HCX.out w5 KP5.out
          have hin5 := HIN.out.keptH (fun j hj => KP5.out.2 j (by simp only [Value.ownBlock, Option.some.injEq] at hj; subst hj; exact HKI.out.1)) KP5.out.1
          have y1 : (convert 30 9 (.slice (some ⟨gi, 0, none⟩) ln ci)).run Tryd.prog w5 = .ok (.string (strB row)) w5 := (hin5.keyAt (R := fun _ => True) (fun _ _ => trivial)).str
          have y2 : (convert 30 9 (.slice ak ln ck)).run Tryd.prog w5 = .ok (.string (strB row)) w5 := (HKX.out w5 T6.out.bel).str
          have hsb := SpB.start (by rw [HLN.out]; exact hin5 : OwK w5 w2.heap.size (.slice (some ⟨gi, 0, none⟩) row.length ci) row)
          rw [HLN.out] at hsb
          have HSB := Lib.hid hsb
          clear hin5 hsb
          go_wp2_with fail
          go_loopw [128] (fun i wx => ∃ j : Nat, j ≤ ln ∧ i = .int .i64 j ∧ SpB w5 wx gi ln j) (fun i _ => ln - (intOf i).toNat)
          case atStart => exact ⟨0, Nat.zero_le _, rfl, HSB.out⟩
          case round =>
            obtain ⟨j, hj, rfl, hsp⟩ := hrel
            by_cases c : j < ln
            · have cj : (j : Int) < (ln : Int) := by omega
              obtain ⟨z, hz⟩ := hsp.at_ j (Nat.le_refl _) c
              have hf := hsp.fz j c
              have HSP := Lib.hid hsp
              clear hsp
              go_wp2_with fail
              exact ⟨⟨j + 1, by omega, by simp, HSP.out.next _⟩, by simp [intOf]; omega⟩
            · have cj : ¬ (j : Int) < (ln : Int) := by omega
              have T7 := Lib.hid (T6.out.write hsp.frm (fun j hj => by rw [hj]; exact ⟨HKI.out.1, HKI.out.2.2.1⟩))
              have lgb : gb < w5.heap.size := Nat.lt_of_lt_of_le (HKS.out gb HKI.out.2.1) KP5.out.1
              have u1' : wr.cell? ⟨gb, 1, none⟩ = some (.int .i64 id) := (hsp.frm.cell lgb HKI.out.2.2.2 1).trans z1
              clear hsp z1 z2 y1 y2
              go_wp2_with fail
              refine (shown8_any T7.out (by omega) (by omega) HRW5.out id).mono ?_
              rintro x w8 ⟨rfl, b8⟩
              have T8 := Lib.hid ((T7.out.below b8).mono (K' := fun _ => False) (fun _ h => h.elim))
              clear b8 u1'
              go_wp2_with fail
              exact ⟨⟨k + 1, s5, last5, by omega, by simp, T8.out, by omega, by omega, HRW5.out⟩, by simp [intOf]; omega⟩
      · have tq : (decide (0 ≤ hFind id s) != decide (0 ≤ hFind id s)) = false := by simp
        go_region_with (first
          | (go_at_call 13; refine (two_drop T3D.out (by omega) (by omega) id).mono ?_; rintro x w4 ⟨rfl, h4, k4⟩; have T4 := Lib.hid h4; have KP4 := Lib.hid (show KeptH K3 w3 w4 from k4); obtain ⟨z1, z2⟩ := HCX.out w4 KP4.out; clear h4 k4)
          | (go_at_call 14; refine (two_mdrop T4.out (by omega) id).mono ?_; rintro x w5 ⟨rfl, h5, k5⟩; have T5 := Lib.hid h5; have KP5 := Lib.hid (KP4.out.trans k5); clear h5 k5))
        all_goals
          go_upto_region 33 with fail
          have hln5 : (hDrop id s).length ≤ k + 1 := by rw [hDrop_len]; omega
          have HRW5 := Lib.hid (show RowsLe 1048576 (hDrop id s) from HRW.out.drop _)
          have hl5 : last ≤ (k : Int) + 1 := by omega
          obtain ⟨s5, hs5⟩ : ∃ s5, (hDrop id s) = s5 := ⟨_, rfl⟩
          obtain ⟨last5, hla5⟩ : ∃ z, last = z := ⟨_, rfl⟩
          have T6 := T5
          rw [hs5, hla5] at T6
          rw [hs5] at hln5 HRW5
          rw [hla5] at hl5
          clear T5 hs5 hla5
          obtain ⟨z1, z2⟩ := HCX.out w5 KP5.out
          have hin5 := HIN.out.keptH (fun j hj => KP5.out.2 j (by simp only [Value.ownBlock, Option.some.injEq] at hj; subst hj; exact HKI.out.1)) KP5.out.1
          have y1 : (convert 30 9 (.slice (some ⟨gi, 0, none⟩) ln ci)).run Tryd.prog w5 = .ok (.string (strB row)) w5 := (hin5.keyAt (R := fun _ => True) (fun _ _ => trivial)).str
          have y2 : (convert 30 9 (.slice ak ln ck)).run Tryd.prog w5 = .ok (.string (strB row)) w5 := (HKX.out w5 T6.out.bel).str
          have hsb := SpB.start (by rw [HLN.out]; exact hin5 : OwK w5 w2.heap.size (.slice (some ⟨gi, 0, none⟩) row.length ci) row)
          rw [HLN.out] at hsb
          have HSB := Lib.hid hsb
          clear hin5 hsb
          go_wp2_with fail
          go_loopw [128] (fun i wx => ∃ j : Nat, j ≤ ln ∧ i = .int .i64 j ∧ SpB w5 wx gi ln j) (fun i _ => ln - (intOf i).toNat)
          case atStart => exact ⟨0, Nat.zero_le _, rfl, HSB.out⟩
          case round =>
            obtain ⟨j, hj, rfl, hsp⟩ := hrel
            by_cases c : j < ln
            · have cj : (j : Int) < (ln : Int) := by omega
              obtain ⟨z, hz⟩ := hsp.at_ j (Nat.le_refl _) c
              have hf := hsp.fz j c
              have HSP := Lib.hid hsp
              clear hsp
              go_wp2_with fail
              exact ⟨⟨j + 1, by omega, by simp, HSP.out.next _⟩, by simp [intOf]; omega⟩
            · have cj : ¬ (j : Int) < (ln : Int) := by omega
              have T7 := Lib.hid (T6.out.write hsp.frm (fun j hj => by rw [hj]; exact ⟨HKI.out.1, HKI.out.2.2.1⟩))
              have lgb : gb < w5.heap.size := Nat.lt_of_lt_of_le (HKS.out gb HKI.out.2.1) KP5.out.1
              have u1' : wr.cell? ⟨gb, 1, none⟩ = some (.int .i64 id) := (hsp.frm.cell lgb HKI.out.2.2.2 1).trans z1
              clear hsp z1 z2 y1 y2
              go_wp2_with fail
              refine (shown8_any T7.out (by omega) (by omega) HRW5.out id).mono ?_
              rintro x w8 ⟨rfl, b8⟩
              have T8 := Lib.hid ((T7.out.below b8).mono (K' := fun _ => False) (fun _ h => h.elim))
              clear b8 u1'
              go_wp2_with fail
              exact ⟨⟨k + 1, s5, last5, by omega, by simp, T8.out, by omega, by omega, HRW5.out⟩, by simp [intOf]; omega⟩
      · have tq : (decide (0 ≤ hFind id s) != decide (0 ≤ hFind id s)) = false := by simp
        go_region_with (first
          | (go_at_call 13; refine (two_drop T3D.out (by omega) (by omega) id).mono ?_; rintro x w4 ⟨rfl, h4, k4⟩; have T4 := Lib.hid h4; have KP4 := Lib.hid (show KeptH K3 w3 w4 from k4); obtain ⟨z1, z2⟩ := HCX.out w4 KP4.out; clear h4 k4)
          | (go_at_call 14; refine (two_mdrop T4.out (by omega) id).mono ?_; rintro x w5 ⟨rfl, h5, k5⟩; have T5 := Lib.hid h5; have KP5 := Lib.hid (KP4.out.trans k5); clear h5 k5))
        all_goals
          go_upto_region 33 with fail
          have hln5 : (hDrop id s).length ≤ k + 1 := by rw [hDrop_len]; omega
          have HRW5 := Lib.hid (show RowsLe 1048576 (hDrop id s) from HRW.out.drop _)
          have hl5 : last ≤ (k : Int) + 1 := by omega
          obtain ⟨s5, hs5⟩ : ∃ s5, (hDrop id s) = s5 := ⟨_, rfl⟩
          obtain ⟨last5, hla5⟩ : ∃ z, last = z := ⟨_, rfl⟩
          have T6 := T5
          rw [hs5, hla5] at T6
          rw [hs5] at hln5 HRW5
          rw [hla5] at hl5
          clear T5 hs5 hla5
          obtain ⟨z1, z2⟩ := HCX.out w5 KP5.out
          have hin5 := HIN.out.keptH (fun j hj => KP5.out.2 j (by simp only [Value.ownBlock, Option.some.injEq] at hj; subst hj; exact HKI.out.1)) KP5.out.1
          have y1 : (convert 30 9 (.slice (some ⟨gi, 0, none⟩) ln ci)).run Tryd.prog w5 = .ok (.string (strB row)) w5 := (hin5.keyAt (R := fun _ => True) (fun _ _ => trivial)).str
          have y2 : (convert 30 9 (.slice ak ln ck)).run Tryd.prog w5 = .ok (.string (strB row)) w5 := (HKX.out w5 T6.out.bel).str
          have hsb := SpB.start (by rw [HLN.out]; exact hin5 : OwK w5 w2.heap.size (.slice (some ⟨gi, 0, none⟩) row.length ci) row)
          rw [HLN.out] at hsb
          have HSB := Lib.hid hsb
          clear hin5 hsb
          go_wp2_with fail
          go_loopw [128] (fun i wx => ∃ j : Nat, j ≤ ln ∧ i = .int .i64 j ∧ SpB w5 wx gi ln j) (fun i _ => ln - (intOf i).toNat)
          case atStart => exact ⟨0, Nat.zero_le _, rfl, HSB.out⟩
          case round =>
            obtain ⟨j, hj, rfl, hsp⟩ := hrel
            by_cases c : j < ln
            · have cj : (j : Int) < (ln : Int) := by omega
              obtain ⟨z, hz⟩ := hsp.at_ j (Nat.le_refl _) c
              have hf := hsp.fz j c
              have HSP := Lib.hid hsp
              clear hsp
              go_wp2_with fail
              exact ⟨⟨j + 1, by omega, by simp, HSP.out.next _⟩, by simp [intOf]; omega⟩
            · have cj : ¬ (j : Int) < (ln : Int) := by omega
              have T7 := Lib.hid (T6.out.write hsp.frm (fun j hj => by rw [hj]; exact ⟨HKI.out.1, HKI.out.2.2.1⟩))
              have lgb : gb < w5.heap.size := Nat.lt_of_lt_of_le (HKS.out gb HKI.out.2.1) KP5.out.1
              have u1' : wr.cell? ⟨gb, 1, none⟩ = some (.int .i64 id) := (hsp.frm.cell lgb HKI.out.2.2.2 1).trans z1
              clear hsp z1 z2 y1 y2
              go_wp2_with fail
              refine (shown8_any T7.out (by omega) (by omega) HRW5.out id).mono ?_
              rintro x w8 ⟨rfl, b8⟩
              have T8 := Lib.hid ((T7.out.below b8).mono (K' := fun _ => False) (fun _ h => h.elim))
              clear b8 u1'
              go_wp2_with fail
              exact ⟨⟨k + 1, s5, last5, by omega, by simp, T8.out, by omega, by omega, HRW5.out⟩, by simp [intOf]; omega⟩
      · have tq : (decide (1 ≤ id ∧ id ≤ last ∧ hFind id s < 0) != decide (1 ≤ id ∧ id ≤ last ∧ hFind id s < 0)) = false := by simp
        obtain ⟨bb, hbb⟩ : ∃ bb, decide (1 ≤ id ∧ id ≤ last ∧ hFind id s < 0) = bb := ⟨_, rfl⟩
        rw [hbb] at tq
        go_region_with (first
          | (go_at_call 15; refine (two_back T3D.out (by omega) (by omega) id HIK.out (fun j hj => .inl hj)).mono ?_; rintro x w4 ⟨rfl, h4, k4⟩; rw [hbb]; have T4 := Lib.hid h4; have KP4 := Lib.hid (show KeptH K3 w3 w4 from k4); obtain ⟨z1, z2⟩ := HCX.out w4 KP4.out; clear h4 k4)
          | (go_at_call 16; refine (two_mback T4.out (by omega) id (HKX.out w4 T4.out.bel) hbl).mono ?_; rintro x w5 ⟨rfl, h5, k5⟩; rw [hbb]; have T5 := Lib.hid h5; have KP5 := Lib.hid (KP4.out.trans k5); clear h5 k5))
        all_goals
          clear hbb
          go_upto_region 33 with fail
          have hln5 : (if 1 ≤ id ∧ id ≤ last ∧ hFind id s < 0 then hLay id row s else s).length ≤ k + 1 := by have := (hLay_len id row s).1; split <;> omega
          have HRW5 := Lib.hid (show RowsLe 1048576 (if 1 ≤ id ∧ id ≤ last ∧ hFind id s < 0 then hLay id row s else s) from by split; exact HRW.out.lay (by rw [HLN.out]; omega); exact HRW.out)
          have hl5 : last ≤ (k : Int) + 1 := by omega
          obtain ⟨s5, hs5⟩ : ∃ s5, (if 1 ≤ id ∧ id ≤ last ∧ hFind id s < 0 then hLay id row s else s) = s5 := ⟨_, rfl⟩
          obtain ⟨last5, hla5⟩ : ∃ z, last = z := ⟨_, rfl⟩
          have T6 := T5
          rw [hs5, hla5] at T6
          rw [hs5] at hln5 HRW5
          rw [hla5] at hl5
          clear T5 hs5 hla5
          obtain ⟨z1, z2⟩ := HCX.out w5 KP5.out
          have hin5 := HIN.out.keptH (fun j hj => KP5.out.2 j (by simp only [Value.ownBlock, Option.some.injEq] at hj; subst hj; exact HKI.out.1)) KP5.out.1
          have y1 : (convert 30 9 (.slice (some ⟨gi, 0, none⟩) ln ci)).run Tryd.prog w5 = .ok (.string (strB row)) w5 := (hin5.keyAt (R := fun _ => True) (fun _ _ => trivial)).str
          have y2 : (convert 30 9 (.slice ak ln ck)).run Tryd.prog w5 = .ok (.string (strB row)) w5 := (HKX.out w5 T6.out.bel).str
          have hsb := SpB.start (by rw [HLN.out]; exact hin5 : OwK w5 w2.heap.size (.slice (some ⟨gi, 0, none⟩) row.length ci) row)
          rw [HLN.out] at hsb
          have HSB := Lib.hid hsb
          clear hin5 hsb
          go_wp2_with fail
          go_loopw [128] (fun i wx => ∃ j : Nat, j ≤ ln ∧ i = .int .i64 j ∧ SpB w5 wx gi ln j) (fun i _ => ln - (intOf i).toNat)
          case atStart => exact ⟨0, Nat.zero_le _, rfl, HSB.out⟩
          case round =>
            obtain ⟨j, hj, rfl, hsp⟩ := hrel
            by_cases c : j < ln
            · have cj : (j : Int) < (ln : Int) := by omega
              obtain ⟨z, hz⟩ := hsp.at_ j (Nat.le_refl _) c
              have hf := hsp.fz j c
              have HSP := Lib.hid hsp
              clear hsp
              go_wp2_with fail
              exact ⟨⟨j + 1, by omega, by simp, HSP.out.next _⟩, by simp [intOf]; omega⟩
            · have cj : ¬ (j : Int) < (ln : Int) := by omega
              have T7 := Lib.hid (T6.out.write hsp.frm (fun j hj => by rw [hj]; exact ⟨HKI.out.1, HKI.out.2.2.1⟩))
              have lgb : gb < w5.heap.size := Nat.lt_of_lt_of_le (HKS.out gb HKI.out.2.1) KP5.out.1
              have u1' : wr.cell? ⟨gb, 1, none⟩ = some (.int .i64 id) := (hsp.frm.cell lgb HKI.out.2.2.2 1).trans z1
              clear hsp z1 z2 y1 y2
              go_wp2_with fail
              refine (shown8_any T7.out (by omega) (by omega) HRW5.out id).mono ?_
              rintro x w8 ⟨rfl, b8⟩
              have T8 := Lib.hid ((T7.out.below b8).mono (K' := fun _ => False) (fun _ h => h.elim))
              clear b8 u1'
              go_wp2_with fail
              exact ⟨⟨k + 1, s5, last5, by omega, by simp, T8.out, by omega, by omega, HRW5.out⟩, by simp [intOf]; omega⟩
      · obtain ⟨T, hT⟩ : ∃ T, hFind id s = T := ⟨_, rfl⟩
        have hfd := two_mfind T3.out (by omega) id
        rw [hT] at hfd
        refine hfd.mono ?_
        rintro x wx ⟨rfl, rfl⟩
        have hst := two_set T3.out id (HIN.out.keyAt (R := fun _ => True) (fun _ _ => trivial))
        rw [hT] at hst
        have HST := Lib.hid hst
        have HTT := Lib.hid hT
        have tq : (decide (0 ≤ T) != decide (0 ≤ T)) = false := by simp
        clear hfd hst hT
        rcases hFind_at id s with e | ⟨k2, y, hy, e, hp, he⟩
        · obtain rfl : T = -1 := by rw [← HTT.out, e]
          have hse : hSet id row s = s := by unfold hSet; rw [if_pos (by omega)]
          have tz : decide ((0 : Int) ≤ -1) = false := rfl
          go_wp2_with fail
          refine HST.out.mono ?_
          rintro x w5 ⟨rfl, h4, k4⟩
          have T5 := Lib.hid (show Two w0 w5 gh s last gm s last K3 by rw [hse] at h4; exact h4)
          have KP5 := Lib.hid (show KeptH K3 w3 w5 from k4)
          clear h4 k4 HST hse e
          go_upto_region 33 with fail
          clear tz tq
          have hln5 : (s).length ≤ k + 1 := by omega
          have HRW5 := Lib.hid (show RowsLe 1048576 (s) from HRW.out)
          have hl5 : last ≤ (k : Int) + 1 := by omega
          obtain ⟨s5, hs5⟩ : ∃ s5, (s) = s5 := ⟨_, rfl⟩
          obtain ⟨last5, hla5⟩ : ∃ z, last = z := ⟨_, rfl⟩
          have T6 := T5
          rw [hs5, hla5] at T6
          rw [hs5] at hln5 HRW5
          rw [hla5] at hl5
          clear T5 hs5 hla5
          obtain ⟨z1, z2⟩ := HCX.out w5 KP5.out
          have hin5 := HIN.out.keptH (fun j hj => KP5.out.2 j (by simp only [Value.ownBlock, Option.some.injEq] at hj; subst hj; exact HKI.out.1)) KP5.out.1
          have y1 : (convert 30 9 (.slice (some ⟨gi, 0, none⟩) ln ci)).run Tryd.prog w5 = .ok (.string (strB row)) w5 := (hin5.keyAt (R := fun _ => True) (fun _ _ => trivial)).str
          have y2 : (convert 30 9 (.slice ak ln ck)).run Tryd.prog w5 = .ok (.string (strB row)) w5 := (HKX.out w5 T6.out.bel).str
          have hsb := SpB.start (by rw [HLN.out]; exact hin5 : OwK w5 w2.heap.size (.slice (some ⟨gi, 0, none⟩) row.length ci) row)
          rw [HLN.out] at hsb
          have HSB := Lib.hid hsb
          clear hin5 hsb
          go_wp2_with fail
          go_loopw [128] (fun i wx => ∃ j : Nat, j ≤ ln ∧ i = .int .i64 j ∧ SpB w5 wx gi ln j) (fun i _ => ln - (intOf i).toNat)
          case atStart => exact ⟨0, Nat.zero_le _, rfl, HSB.out⟩
          case round =>
            obtain ⟨j, hj, rfl, hsp⟩ := hrel
            by_cases c : j < ln
            · have cj : (j : Int) < (ln : Int) := by omega
              obtain ⟨z, hz⟩ := hsp.at_ j (Nat.le_refl _) c
              have hf := hsp.fz j c
              have HSP := Lib.hid hsp
              clear hsp
              go_wp2_with fail
              exact ⟨⟨j + 1, by omega, by simp, HSP.out.next _⟩, by simp [intOf]; omega⟩
            · have cj : ¬ (j : Int) < (ln : Int) := by omega
              have T7 := Lib.hid (T6.out.write hsp.frm (fun j hj => by rw [hj]; exact ⟨HKI.out.1, HKI.out.2.2.1⟩))
              have lgb : gb < w5.heap.size := Nat.lt_of_lt_of_le (HKS.out gb HKI.out.2.1) KP5.out.1
              have u1' : wr.cell? ⟨gb, 1, none⟩ = some (.int .i64 id) := (hsp.frm.cell lgb HKI.out.2.2.2 1).trans z1
              clear hsp z1 z2 y1 y2
              go_wp2_with fail
              refine (shown8_any T7.out (by omega) (by omega) HRW5.out id).mono ?_
              rintro x w8 ⟨rfl, b8⟩
              have T8 := Lib.hid ((T7.out.below b8).mono (K' := fun _ => False) (fun _ h => h.elim))
              clear b8 u1'
              go_wp2_with fail
              exact ⟨⟨k + 1, s5, last5, by omega, by simp, T8.out, by omega, by omega, HRW5.out⟩, by simp [intOf]; omega⟩
        · obtain rfl : T = (k2 : Int) := by rw [← HTT.out, e]
          obtain ⟨yi, yr⟩ := y
          have he2 : id = yi := he.symm
          subst he2
          have hse : hSet id row s = s.set k2 (id, row) := by unfold hSet; rw [if_neg (by omega), e]; rfl
          have tz : decide ((0 : Int) ≤ (k2 : Int)) = true := by simp
          have hks : (k2 : Int) < (s.length : Int) := by have := (List.getElem?_eq_some_iff.1 hy).1; omega
          have HY := Lib.hid hy
          have HSE := Lib.hid hse
          have HYR := Lib.hid (show ∀ b ∈ ((id, yr) : Sl).2, b < 256 from T3.out.ok.1.row k2 id yr hy)
          obtain ⟨ns, hns⟩ : ∃ ns, s.length = ns := ⟨_, rfl⟩
          have HNS := Lib.hid hns
          rw [hns] at hks
          clear hy hse e hp hns he
          go_wp2_with fail
          refine HST.out.mono ?_
          rintro x w4 ⟨rfl, h4, k4⟩
          have T4 := Lib.hid h4
          have KP4 := Lib.hid (show KeptH K3 w3 w4 from k4)
          obtain ⟨z1, z2⟩ := HCX.out w4 KP4.out
          obtain ⟨g, cg, u, v0, v1, v2, -, ua, un, uc, rfl⟩ := two_slot T4.out HY.out HYR.out
          rw [HNS.out] at v0
          have lgm : gm < w4.heap.size := World.block_lt_of_cell? w4 _ v0
          have lgb : gb < w4.heap.size := World.block_lt_of_cell? w4 _ z2
          have lg2 : g < w4.heap.size := World.block_lt_of_cell? w4 _ v2
          have HCP := Lib.hid (copy_row (HKX.out w4.drew (T4.out.below ((Below.refl _ _).drew)).bel) hbl)
          clear h4 k4 HST v1
          go_upto_region 32 with fail
          go_region_with (first | (go_at_call 10; refine HCP.out.mono ?_; rintro x wq ⟨v5, rfl, -, b5, hown⟩; obtain ⟨g5, c5, rfl, -, hg5⟩ := hown.isB HRL.out; have b45 := stepB ((Below.refl _ _).drew) b5; have TQ := Lib.hid (T4.out.to b45); have HB45 := Lib.hid b45; have KPQ := Lib.hid (KP4.out.below HKS.out b45); have HOW := Lib.hid (hown.le (Nat.le_trans T4.out.bel.size (show w4.heap.size ≤ w4.drew.heap.size from Nat.le_refl _))); have HG5 := Lib.hid hg5; have p0 := (HB45.out.cell (p := ⟨gm, 0, none⟩) lgm).trans v0; have p2 := (HB45.out.cell (p := ⟨g, k2 * 2 + 1, none⟩) lg2).trans v2; obtain ⟨r1, r2, r3⟩ := two_row TQ.out HY.out (by rw [HNS.out]; exact p0) HOW.out (fun j hj => by simp only [Value.ownBlock, Option.some.injEq] at hj; subst hj; exact .inr ⟨HG5.out, (HOW.out.1.lt _ rfl).2⟩); have RR := Lib.hid (And.intro r1 r2); rw [HLN.out]; clear b5 hown b45 hg5 r1 r2))
          all_goals
            obtain ⟨w5, hw5⟩ : ∃ w5, wq.setCell ⟨g, k2 * 2 + 1, none⟩ (.slice (some ⟨g5, 0, none⟩) ln c5) = w5 := ⟨_, rfl⟩
            have hR := RR.out
            rw [HLN.out, hw5] at hR
            rw [hw5]
            have T5 := Lib.hid (show Two w0 w5 gh (hSet id row s) last gm (hSet id row s) last K3 by
              have h := hR.1
              rw [← HSE.out] at h
              refine h.mono (fun j hj => ⟨.inl hj, fun ee => ?_⟩)
              simp only [Value.ownBlock, Option.some.injEq] at ee
              have h1 := HKS.out j hj
              have h2 := KP4.out.1
              have h3 : w4.heap.size ≤ g5 := HG5.out
              omega)
            have KP5 := Lib.hid (show KeptH K3 w3 w5 from ⟨Nat.le_trans KPQ.out.1 hR.2.1, fun j hj => (hR.2.2 j (.inl hj)).trans (KPQ.out.2 j hj)⟩)
            clear hw5 hR RR p0 p2 r3 z1 z2 v0 v2 lgm lgb lg2 HCP TQ HB45 KPQ HOW HG5 tz tq hks
            go_upto_region 33 with fail
            have hln5 : (hSet id row s).length ≤ k + 1 := by rw [hSet_len]; omega
            have HRW5 := Lib.hid (show RowsLe 1048576 (hSet id row s) from HRW.out.set (by rw [HLN.out]; omega))
            have hl5 : last ≤ (k : Int) + 1 := by omega
            obtain ⟨s5, hs5⟩ : ∃ s5, (hSet id row s) = s5 := ⟨_, rfl⟩
            obtain ⟨last5, hla5⟩ : ∃ z, last = z := ⟨_, rfl⟩
            have T6 := T5
            rw [hs5, hla5] at T6
            rw [hs5] at hln5 HRW5
            rw [hla5] at hl5
            clear T5 hs5 hla5
            obtain ⟨z1, z2⟩ := HCX.out w5 KP5.out
            have hin5 := HIN.out.keptH (fun j hj => KP5.out.2 j (by simp only [Value.ownBlock, Option.some.injEq] at hj; subst hj; exact HKI.out.1)) KP5.out.1
            have y1 : (convert 30 9 (.slice (some ⟨gi, 0, none⟩) ln ci)).run Tryd.prog w5 = .ok (.string (strB row)) w5 := (hin5.keyAt (R := fun _ => True) (fun _ _ => trivial)).str
            have y2 : (convert 30 9 (.slice ak ln ck)).run Tryd.prog w5 = .ok (.string (strB row)) w5 := (HKX.out w5 T6.out.bel).str
            have hsb := SpB.start (by rw [HLN.out]; exact hin5 : OwK w5 w2.heap.size (.slice (some ⟨gi, 0, none⟩) row.length ci) row)
            rw [HLN.out] at hsb
            have HSB := Lib.hid hsb
            clear hin5 hsb
            go_wp2_with fail
            go_loopw [128] (fun i wx => ∃ j : Nat, j ≤ ln ∧ i = .int .i64 j ∧ SpB w5 wx gi ln j) (fun i _ => ln - (intOf i).toNat)
            case atStart => exact ⟨0, Nat.zero_le _, rfl, HSB.out⟩
            case round =>
              obtain ⟨j, hj, rfl, hsp⟩ := hrel
              by_cases c : j < ln
              · have cj : (j : Int) < (ln : Int) := by omega
                obtain ⟨z, hz⟩ := hsp.at_ j (Nat.le_refl _) c
                have hf := hsp.fz j c
                have HSP := Lib.hid hsp
                clear hsp
                go_wp2_with fail
                exact ⟨⟨j + 1, by omega, by simp, HSP.out.next _⟩, by simp [intOf]; omega⟩
              · have cj : ¬ (j : Int) < (ln : Int) := by omega
                have T7 := Lib.hid (T6.out.write hsp.frm (fun j hj => by rw [hj]; exact ⟨HKI.out.1, HKI.out.2.2.1⟩))
                have lgb : gb < w5.heap.size := Nat.lt_of_lt_of_le (HKS.out gb HKI.out.2.1) KP5.out.1
                have u1' : wr.cell? ⟨gb, 1, none⟩ = some (.int .i64 id) := (hsp.frm.cell lgb HKI.out.2.2.2 1).trans z1
                clear hsp z1 z2 y1 y2
                go_wp2_with fail
                refine (shown8_any T7.out (by omega) (by omega) HRW5.out id).mono ?_
                rintro x w8 ⟨rfl, b8⟩
                have T8 := Lib.hid ((T7.out.below b8).mono (K' := fun _ => False) (fun _ h => h.elim))
                clear b8 u1'
                go_wp2_with fail
                exact ⟨⟨k + 1, s5, last5, by omega, by simp, T8.out, by omega, by omega, HRW5.out⟩, by simp [intOf]; omega⟩
      · have hbh := hc_behind (two_hc T3.out) (by omega) id HII.out
        obtain ⟨r, hr⟩ : ∃ r, hBeh id 0 s = r := ⟨_, rfl⟩
        have hmb := fun (wx : World) (hb : Below w3.heap.size w3 wx) => two_mbeh (T3.out.below hb) (by omega) id
        rw [hr] at hbh hmb
        have HMB := Lib.hid hmb
        have tq : (r != r) = false := by simp
        have tq2 : (decide (0 < r) != decide (0 < r)) = false := by simp
        clear hr hmb
        refine hbh.mono ?_
        rintro x w5 ⟨rfl, b5⟩
        have HM5 := Lib.hid (HMB.out w5 b5)
        have T5 := Lib.hid (T3.out.below b5)
        have KP5 := Lib.hid ((KeptH.refl K3 w3).below HKS.out b5)
        obtain ⟨z1, z2⟩ := HCX.out w5 KP5.out
        clear b5 hbh HMB
        go_wp2_with fail
        refine HM5.out.mono ?_
        rintro x wx ⟨rfl, rfl⟩
        go_upto_region 33 with fail
        clear tq tq2 HM5 z1 z2
        have hln5 : (s).length ≤ k + 1 := by omega
        have HRW5 := Lib.hid (show RowsLe 1048576 (s) from HRW.out)
        have hl5 : last ≤ (k : Int) + 1 := by omega
        obtain ⟨s5, hs5⟩ : ∃ s5, (s) = s5 := ⟨_, rfl⟩
        obtain ⟨last5, hla5⟩ : ∃ z, last = z := ⟨_, rfl⟩
        have T6 := T5
        rw [hs5, hla5] at T6
        rw [hs5] at hln5 HRW5
        rw [hla5] at hl5
        clear T5 hs5 hla5
        obtain ⟨z1, z2⟩ := HCX.out w5 KP5.out
        have hin5 := HIN.out.keptH (fun j hj => KP5.out.2 j (by simp only [Value.ownBlock, Option.some.injEq] at hj; subst hj; exact HKI.out.1)) KP5.out.1
        have y1 : (convert 30 9 (.slice (some ⟨gi, 0, none⟩) ln ci)).run Tryd.prog w5 = .ok (.string (strB row)) w5 := (hin5.keyAt (R := fun _ => True) (fun _ _ => trivial)).str
        have y2 : (convert 30 9 (.slice ak ln ck)).run Tryd.prog w5 = .ok (.string (strB row)) w5 := (HKX.out w5 T6.out.bel).str
        have hsb := SpB.start (by rw [HLN.out]; exact hin5 : OwK w5 w2.heap.size (.slice (some ⟨gi, 0, none⟩) row.length ci) row)
        rw [HLN.out] at hsb
        have HSB := Lib.hid hsb
        clear hin5 hsb
        go_wp2_with fail
        go_loopw [128] (fun i wx => ∃ j : Nat, j ≤ ln ∧ i = .int .i64 j ∧ SpB w5 wx gi ln j) (fun i _ => ln - (intOf i).toNat)
        case atStart => exact ⟨0, Nat.zero_le _, rfl, HSB.out⟩
        case round =>
          obtain ⟨j, hj, rfl, hsp⟩ := hrel
          by_cases c : j < ln
          · have cj : (j : Int) < (ln : Int) := by omega
            obtain ⟨z, hz⟩ := hsp.at_ j (Nat.le_refl _) c
            have hf := hsp.fz j c
            have HSP := Lib.hid hsp
            clear hsp
            go_wp2_with fail
            exact ⟨⟨j + 1, by omega, by simp, HSP.out.next _⟩, by simp [intOf]; omega⟩
          · have cj : ¬ (j : Int) < (ln : Int) := by omega
            have T7 := Lib.hid (T6.out.write hsp.frm (fun j hj => by rw [hj]; exact ⟨HKI.out.1, HKI.out.2.2.1⟩))
            have lgb : gb < w5.heap.size := Nat.lt_of_lt_of_le (HKS.out gb HKI.out.2.1) KP5.out.1
            have u1' : wr.cell? ⟨gb, 1, none⟩ = some (.int .i64 id) := (hsp.frm.cell lgb HKI.out.2.2.2 1).trans z1
            clear hsp z1 z2 y1 y2
            go_wp2_with fail
            refine (shown8_any T7.out (by omega) (by omega) HRW5.out id).mono ?_
            rintro x w8 ⟨rfl, b8⟩
            have T8 := Lib.hid ((T7.out.below b8).mono (K' := fun _ => False) (fun _ h => h.elim))
            clear b8 u1'
            go_wp2_with fail
            exact ⟨⟨k + 1, s5, last5, by omega, by simp, T8.out, by omega, by omega, HRW5.out⟩, by simp [intOf]; omega⟩
    · have c1 : ¬ (k : Int) < (n : Int) := by omega
      obtain rfl : n = k := by omega
      have T2 := Lib.hid hF
      obtain ⟨cl, vv, cv, av, capv, rfl⟩ := two_mlast hF
      obtain ⟨ns, hns⟩ : ∃ ns, s.length = ns := ⟨_, rfl⟩
      have HNS := Lib.hid hns
      rw [hns] at cv hs
      clear hF T1 hns cl
      go_wp2_with fail
      go_loopw [147] (fun i wx => ∃ j : Nat, j ≤ ns ∧ i = .int .i64 j ∧ Two w0 wx gh s last gm s last (fun _ => False)) (fun i _ => ns - (intOf i).toNat)
      case atStart => exact ⟨0, Nat.zero_le _, rfl, T2.out⟩
      case round =>
        clear T2 cv
        obtain ⟨j, hj, rfl, hF⟩ := hrel
        by_cases q2 : j < ns
        · have c2 : (j : Int) < (ns : Int) := by omega
          have hx : s[j]? = some (s[j]'(by rw [HNS.out]; exact q2)) := List.getElem?_eq_getElem _
          generalize s[j]'(by rw [HNS.out]; exact q2) = y at *
          obtain ⟨yi, yr⟩ := y
          obtain ⟨g, cg, u, v0, v1, -, -, -, -, -, -⟩ := two_slot hF hx (hF.ok.1.row j yi yr hx)
          rw [HNS.out] at v0
          have T3 := Lib.hid hF
          simp only at v1
          have HSH := Lib.hid (shown8_any hF (by rw [HNS.out]; omega) (by omega) HRW.out yi)
          clear hF hx
          by_cases p : 0 < yi
          · have tp : decide (0 < yi) = true := by simpa using p
            go_wp2_with fail
            refine HSH.out.mono ?_
            rintro x w8 ⟨rfl, b8⟩
            have T8 := Lib.hid (T3.out.below b8)
            clear b8 v0 v1 T3 HSH
            go_wp2_with fail
            exact ⟨⟨j + 1, by omega, by simp, T8.out⟩, by simp [intOf]; omega⟩
          · have tp : decide (0 < yi) = false := by simpa using p
            clear HSH
            go_wp2_with fail
            exact ⟨⟨j + 1, by omega, by simp, T3.out⟩, by simp [intOf]; omega⟩
        · have c2 : ¬ (j : Int) < (ns : Int) := by omega
          obtain rfl : ns = j := by omega
          have HB := Lib.hid (B0.out.trans (hF.bel.mono B0.out.size))
          clear hF
          go_wp2_with fail
          go_ret
          exact ⟨rfl, HB.out⟩

/-- a world for the witness: the listed variables hold what is laid -/
noncomputable def laidWorld (os : Os) : World :=
  { World.holding Tryd.prog os ⟨#[], #[], []⟩ with heap := ((World.holding Tryd.prog os ⟨#[], #[], []⟩).heap.modify 2 fun
      | .cells _ t frozen => .cells #[.int .u8 0, .int .u8 1, .int .u8 56, .int .u8 2, .int .u8 57, .int .u8 49, .int .u8 28, .int .u8 3, .int .u8 61, .int .u8 58, .int .u8 42, .int .u8 50, .int .u8 38, .int .u8 29, .int .u8 17, .int .u8 4, .int .u8 62, .int .u8 47, .int .u8 59, .int .u8 36, .int .u8 45, .int .u8 43, .int .u8 51, .int .u8 22, .int .u8 53, .int .u8 39, .int .u8 33, .int .u8 30, .int .u8 24, .int .u8 18, .int .u8 12, .int .u8 5, .int .u8 63, .int .u8 55, .int .u8 48, .int .u8 27, .int .u8 60, .int .u8 41, .int .u8 37, .int .u8 16, .int .u8 46, .int .u8 35, .int .u8 44, .int .u8 21, .int .u8 52, .int .u8 32, .int .u8 23, .int .u8 11, .int .u8 54, .int .u8 26, .int .u8 40, .int .u8 15, .int .u8 34, .int .u8 20, .int .u8 31, .int .u8 10, .int .u8 25, .int .u8 14, .int .u8 19, .int .u8 9, .int .u8 13, .int .u8 8, .int .u8 7, .int .u8 6] t frozen
      | o => o) }
theorem laid_met (os : Os) : laidMetH Tryd.prog Rows.heapPlaysUptoRow.laid ((laidWorld os).forCall (fun _ _ => 0) ⟨#[], #[.slice none 0 0], []⟩).memory :=
  laidMet_of_run' 8 (by kernel_rfl) (by kernel_rfl)
theorem reads (os : Os) {H : Type} (enc : TypeId × Value → H) : ∃ places, DataW.whole enc Tryd.prog ((laidWorld os).forCall (fun _ _ => 0) ⟨#[], #[.slice none 0 0], []⟩).memory Tryd.f3.params.toList Rows.heapPlaysSpec.vars false (#[.slice none 0 0] : Array Value).toList 8 = some ([.nil], [], places) :=
  ⟨[], by kernel_rfl⟩

set_option maxRecDepth 100000 in
theorem lifted (os : Os) (started : os.Started) (H : Type) (enc : TypeId × Value → H) (F : Stop.Interp) :
    ReturnsInHanded {} Tryd.checked os 3 .any ((Rows.OpenSpec.upto Rows.heapPlaysSpec).preRow enc Tryd.prog Tryd.f3 Rows.heapPlaysUptoRow.domain false Rows.heapPlaysUptoRow.laid) (((Rows.OpenSpec.upto Rows.heapPlaysSpec).at F).post enc Tryd.prog Tryd.f3 false true false false) := by
  obtain ⟨places, hx⟩ := reads os enc
  refine returnsInHanded_of_row (C := Tryd.checked) (s := (Rows.OpenSpec.upto Rows.heapPlaysSpec)) own started (by kernel_rfl) Tryd.func3
    (witness_row_at (enc := enc) (C := Tryd.checked) false (laidWorld os) #[.slice none 0 0] rfl (by kernel_rfl) (by kernel_rfl) (by kernel_rfl)
      (OpenSpec.preRow_of_cond 8 hx (by kernel_rfl) (fun k hk => by cases hk; kernel_rfl) (by kernel_rfl) (laid_met os))) ?_
  intro W base args ds gs before hval0 hW _ hcond _ hL _ _
  have hval : ∀ (j : Nat) t v, Tryd.f3.params[j]? = some t → args[j]? = some v → Value.okWide Tryd.prog W .any base t v := hval0
  have hW' := hW
  obtain ⟨p, q, hA0, hV, rfl, hfz, hnd⟩ := hW
  have hA : DataW.TrodAll enc Tryd.prog W 0 (fun _ => true) true Tryd.f3.params.toList args.toList ds p := hA0
  rw [Tryd.params3] at hA hval
  obtain ⟨v0, vs0, d0, ds0, p0, q0, hargs, rfl, rfl, h0, r0⟩ := trodAll_cons hA
  obtain ⟨rfl, rfl, rfl⟩ := trodAll_nil r0
  obtain rfl : args = #[v0] := by cases args; simp_all
  obtain ⟨rfl, rfl⟩ := trodVars_none hV
  have hk : Rows.uptoSmall H [d0] = true := hcond _ rfl
  have lt0 : ∀ x ∈ p0, x.block < W.heap.size := by obtain ⟨m, hm⟩ := h0; exact DataW.trod_lt m _ _ _ hm
  refine (walk (enc := enc) base v0 d0 p0 W (hval 0 22 v0 rfl rfl) h0 hk hL).mono fun e W' ⟨he, bel⟩ => ?_
  subst he
  exact ⟨_, rfl, _, _, _, [], _, [], hW', trodAll_mk1 (shut_bool Tryd.underlying4 _), (trodAll_cons_mk (Below.trod laidOut (by kernel_rfl) (of_decide_eq_true (by kernel_rfl)) h0 bel lt0) trodAll_mk0), rfl, bel.frame _, fun h => by cases h⟩

theorem said : Rows.HeapPlaysUptoSaid :=
  OpenClaim.holds_of_cond 3 Tryd.f3 rfl rfl rfl rfl rfl rfl rfl ⟨rfl, rfl, rfl, rfl, rfl⟩ rfl rfl rfl rfl rfl (by kernel_rfl) Tryd.func3 (by kernel_rfl)
    (of_decide_eq_true (by kernel_rfl)) (by unfold Func.isWrapper; first | (rw [if_pos (by decide +kernel)]; kernel_rfl) | (rw [if_neg (by decide +kernel)]; exact ⟨rfl, rfl⟩))
    (fun os started H enc _ F => by rw [OpenClaim.pre_eq_preRow]; exact lifted os started H enc F)
theorem plain (f : FuncId) (fn : Func) (hf : Tryd.pinned.checked.prog.funcNamed "hasp/hasplaw08.HeapPlays" = some f) (hfn : Tryd.pinned.checked.prog.funcs[f]? = some fn) :
    false = Tryd.pinned.checked.prog.looks [] ∧ ∀ (j : Nat) t, fn.params[j]? = some t → Tryd.pinned.checked.prog.wantsStandIn t = false := by
  obtain rfl : f = 3 := Option.some.inj ((show Tryd.prog.funcNamed "hasp/hasplaw08.HeapPlays" = some 3 by kernel_rfl).symm.trans hf) |>.symm
  obtain rfl : fn = Tryd.f3 := (Option.some.inj (Tryd.func3.symm.trans hfn)).symm
  refine ⟨by kernel_rfl, fun j t ht => ?_⟩
  rw [Tryd.params3] at ht
  have hm : t ∈ ([22] : List TypeId) := by simpa using Array.mem_of_getElem? ht
  have hall : (([22] : List TypeId).all fun u => !Tryd.prog.wantsStandIn u) = true := by kernel_rfl
  exact (show Tryd.prog.wantsStandIn t = false by simpa using List.all_eq_true.1 hall t hm)

theorem proved : Rows.HeapPlaysUptoCardSaid :=
  Claim7.holds_tied_plain_at .later [] _ _ _ _ said (fun _ h => by cases h) (by kernel_rfl) (fun _ h => by cases h) heapPlaysUpto_row_tie rfl ⟨rfl, rfl⟩ (by kernel_rfl) rfl plain (by kernel_rfl)
end Go.Proofs.YtmmchhlfbhbigaaDoor.heapPlays
