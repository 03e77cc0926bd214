/-
  HeapOnce answers true at any script of calls, of a bulk of at most 1048576: no two rows lie in one slot, and no number is ever given twice.
  Conditions: none but the row's own; the listed variables hold what the program's text lays (the card ties them).
-/
import Derived.Test.YtmmchhlfbhbigaaDoorMh1
import Derived.Test.YtmmchhlfbhbigaaDoorCards
import Derived.Test.YtmmchhlfbhbigaaDoorTie
import Derived.WalkKit
import Derived.ProofKit
import Derived.OpenShut
import Derived.ShutString
import Derived.ChangeOld
import Derived.Below
import Derived.Carry
import Derived.Deep.DeepHandedRow
import Derived.Lib.LaidTab
namespace Go.Proofs.YtmmchhlfbhbigaaDoor.heapOnce
open Go.ChangeShapes Go.WideShapes Go.ChangeAt Go.RowKit
open Go.Joins
set_option linter.unusedVariables false

theorem own : ownKnob Tryd.prog.godebug = none := by kernel_rfl
theorem laidOut : laidOutB Tryd.prog = true := by kernel_rfl

set_option maxRecDepth 100000 in

set_option maxHeartbeats 4000000 in
theorem walk {H : Type} {enc : TypeId × Value → H} (base : Nat) (v0 : Value) (d0 : DataW H) (p0 : List MemPlace) (W : World)
    (o0 : Value.okWide Tryd.prog W .any base 22 v0) (h0 : DataW.Trod enc Tryd.prog W 0 (fun _ => true) true 22 v0 d0 p0)
    (hk : Rows.uptoSmall H [d0] = true)
    (hL : laidMetH Tryd.prog Rows.heapOnceUptoRow.laid W) :
    Calls Tryd.prog 5 #[v0] W fun e w' => e = .returned (.bool true) ∧ Below W.heap.size W w' := by
  obtain ⟨a, n, cap, b, off, kd, idf, kf, kv, rfl, hn, ha, hO⟩ := open_opsh o0 h0 (up_arg hk (by simp))
  have hT := tabT_of_laid hL
  have HT := Lib.hid hT
  have HS := Lib.hid (speaks8_any W hT)
  clear o0 h0 hk hL hT
  go_enter Tryd.func5, Tryd.ntmps5
  go_wp2_with fail
  refine HS.out.mono ?_
  rintro x w0 ⟨rfl, b0⟩
  have O0 := Lib.hid (hO.below b0)
  have B0 := Lib.hid b0
  have HT0 := Lib.hid (HT.out.below b0)
  clear hO b0
  go_wp2_with fail
  refine (hc_new w0 HT0.out).mono ?_
  rintro x w1 ⟨gh, rfl, h1, -⟩
  have H1 := Lib.hid h1
  clear h1
  go_wp2_with fail
  go_loopw [20, 4] (fun i l wx => ∃ (k : Nat) (s : List Sl) (last ll : Int), k ≤ n ∧ i = .int .i64 k ∧ l = .int .i64 ll ∧ Hc w0 wx gh s last (fun _ => False) ∧ s.length ≤ k ∧ last ≤ k ∧ ll ≤ last) (fun i _ _ => n - (intOf i).toNat)
  case atStart => exact ⟨0, [], 0, 0, Nat.zero_le _, rfl, rfl, H1.out, Nat.le_refl _, Int.le_refl _, Int.le_refl _⟩
  case round =>
    obtain ⟨k, s, last, ll, hk1, rfl, rfl, hF, hs, hl, hll⟩ := hrel
    by_cases q : k < n
    · have c1 : (k : Int) < (n : Int) := by omega
      have K1 := Lib.hid (O0.out.below hF.bel)
      have d0 := K1.out.c0 k q
      have d1 := K1.out.c1 k q
      have d2 := K1.out.c2 k q
      obtain rfl : a = some ⟨b, off, none⟩ := by
        rcases ha with g | g
        · omega
        · exact g
      have hky := K1.out.key k q
      have hkl := K1.out.len k q
      obtain ⟨ak, bk, ok, ck, ekv, -⟩ := _root_.id hky
      have HKY := Lib.hid hky
      have HF := Lib.hid hF
      have ltb := K1.out.lt (by omega)
      rw [ekv] at d2 HKY
      obtain ⟨kk, hkk⟩ : ∃ kk, bits .and .i64 (kd k) 3 = kk := ⟨_, rfl⟩
      clear hF K1 hky ekv H1
      go_upto_region 20 with fail
      · obtain ⟨w2, hw2⟩ : ∃ w2, wr.alloc (.cells #[.int .i64 (kd k), .int .i64 (idf k), .slice ak (kf k).length ck] 32) = w2 := ⟨_, rfl⟩
        have b2 : Below wr.heap.size wr w2 := by rw [← hw2]; exact (Below.refl _ _).alloc (Nat.le_refl _) _
        rw [hw2]
        refine (copy_row (HKY.out.step (Frm.of_below (F := fun _ => False) b2) (fun _ _ h => h)) (by omega)).mono ?_
        rintro x w3 ⟨v3, rfl, hk3, b3, -⟩
        have HC3 := Lib.hid (HF.out.to (stepB b2 b3))
        have HK3 := Lib.hid (hk3.mono (R' := fun j => wr.heap.size ≤ j ∧ j < w3.heap.size) (fun j hj => ⟨Nat.le_trans b2.size hj.1, hj.2⟩))
        clear hw2 b2 hk3 b3
        go_wp2_with fail
        refine (hc_add HC3.out (by omega) (by omega) HK3.out (fun j hj => .inl (.inr hj))).mono ?_
        rintro x w4 ⟨rfl, h4, -⟩
        have hln := (hLay_len (last + 1) (kf k) s).1
        obtain ⟨s4, hs4⟩ : ∃ s4, hLay (last + 1) (kf k) s = s4 := ⟨_, rfl⟩
        obtain ⟨last4, hl4⟩ : ∃ z, last + 1 = z := ⟨_, rfl⟩
        rw [hl4] at hs4 h4 hln
        rw [hs4] at h4 hln
        rw [hl4]
        have H4 := Lib.hid (h4.mono (K' := fun _ => False) (fun _ h => h.elim))
        have e1 : decide (last4 ≤ ll) = false := by simp; omega
        have hb4 : s4.length ≤ k + 1 ∧ last4 ≤ (k : Int) + 1 ∧ last4 ≤ last4 := ⟨by omega, by omega, by omega⟩
        have HB4 := Lib.hid hb4
        clear h4 hln hs4 hl4 hb4 HF HC3 HK3 HKY
        go_upto_region 20 with fail
        clear e1 d0 d1 d2
        obtain ⟨ll4, hll4⟩ : ∃ z, last4 = z := ⟨_, rfl⟩
        have HLL := Lib.hid hll4
        generalize hgg : Value.int .i64 last4 = VL
        obtain ⟨bm, hbm⟩ : ∃ bm, w4.heap.size = bm := ⟨_, rfl⟩
        have hmk : (Instr.makeMap 50 none).run Tryd.prog w4 = .ok (.map (some bm)) (w4.alloc (.map #[] 0)) := by rw [← hbm]; rfl
        have b5 : Below w4.heap.size w4 (w4.alloc (.map #[] 0)) := (Below.refl _ _).alloc (Nat.le_refl _) _
        have him0 := imap_made (.int .i64) ik w4 bm hbm
        obtain ⟨w5, hw5⟩ : ∃ w5, w4.alloc (.map #[] 0) = w5 := ⟨_, rfl⟩
        rw [hw5] at hmk b5 him0
        have H5 := Lib.hid (H4.out.more (K' := fun j => j = bm) b5 (fun j hj => .inr (by have := him0.lt; omega)))
        have HM0 := Lib.hid him0
        have hbw : w0.heap.size ≤ bm := by rw [← hbm]; exact H4.out.bel.size
        clear hw5 b5 him0 hbm H4 c1 ltb
        obtain ⟨g1, g2, g3⟩ := HB4.out
        go_wp2_with fail
        refine (hc_behind H5.out (by omega) 0 (by unfold InI; decide)).mono ?_
        rintro x w6 ⟨rfl, b6⟩
        have H6 := Lib.hid (H5.out.below b6)
        have HM6 := Lib.hid (HM0.out.below b6)
        clear b6 HM0 H5 hmk
        go_wp2_with fail
        go_loopw [9, 10] (fun at' mo wx => ∃ (pr : Int) (g : Int → Option Value), 0 ≤ pr ∧ pr ≤ last4 ∧ at' = .int .i64 (hBeh pr 0 s4) ∧ mo = .bool (decide (0 < hBeh pr 0 s4)) ∧ Hc w0 wx gh s4 last4 (fun j => j = bm) ∧ IMap (.int .i64) ik wx bm g (cle pr s4) ∧ MetH s4 pr g) (fun at' mo _ => hmeas last4 at' mo)
        case atStart => exact ⟨0, _, Int.le_refl _, H6.out.ok.2, rfl, rfl, H6.out, by rw [cle_zero]; exact HM6.out, fun z v hv => by cases hv⟩
        case round =>
          clear H6 HM6
          obtain ⟨pr, g, hp0, hp1, rfl, rfl, hF, hM, hG⟩ := hrel
          by_cases p : 0 < hBeh pr 0 s4
          · obtain ⟨pp, ss, p1, p2, p3, p4, p5, p6, p7, p8⟩ := once_step hF.ok.1 hG p
            have HNX := Lib.hid (fun (h : 0 < hBeh (hBeh pr 0 s4) 0 s4) => hBeh_pos h)
            have hcl := cle_le (hBeh pr 0 s4) s4
            have hll4 := hLen_le s4
            obtain ⟨m, hm⟩ : ∃ m, hBeh pr 0 s4 = m := ⟨_, rfl⟩
            rw [hm] at p p3 p5 p6 p7 p8 HNX hcl
            rw [hm]
            obtain ⟨cc, hcc⟩ : ∃ cc, cle pr s4 = cc := ⟨_, rfl⟩
            rw [hcc] at hM p6
            have HF := Lib.hid hF
            have HM := Lib.hid hM
            have P5 := Lib.hid p5
            have dm : decide (0 < m) = true := by simp; omega
            clear hF hM hG p5 hm hcc
            go_wp2_with fail
            refine (hc_place HF.out m).mono ?_
            rintro x w7 ⟨rfl, b7⟩
            rw [p3]
            have H7 := Lib.hid (HF.out.below b7)
            have HM7 := HM.out.below b7
            have hw1 : IntKind.i64.wrap ((pp : Int) * 16) = (pp : Int) * 16 := by rw [IntKind.wrap_i64]; omega
            have hw2 : IntKind.i64.wrap ((pp : Int) * 16 + (ss : Int)) = (pp : Int) * 16 + (ss : Int) := by rw [IntKind.wrap_i64]; omega
            have hl1 := HM7.look (P := Tryd.prog) (t := 50) Tryd.underlying50 Tryd.underlying3 ik_key (zint w7) ((pp : Int) * 16 + (ss : Int)) false
            rw [p4] at hl1
            simp only [Option.getD_none, Bool.false_eq_true, if_false] at hl1
            obtain ⟨w8, hrun, hm8, hg8, hz8⟩ := HM7.put (P := Tryd.prog) (t := 50) Tryd.underlying50 Tryd.underlying3 ik_key ik_inj ((pp : Int) * 16 + (ss : Int)) (.int .i64 1)
            rw [if_neg (by rw [p4]; decide)] at hm8
            have hl2 := hm8.look (P := Tryd.prog) (t := 50) Tryd.underlying50 Tryd.underlying3 ik_key (zint w8) ((pp : Int) * 16 + (ss : Int)) false
            simp only [if_true, Option.getD_some, Bool.false_eq_true, if_false] at hl2
            have hln := hm8.len (P := Tryd.prog) (t := 50) (ty := 3) Tryd.underlying50
            unfold ik at hl1 hrun hl2
            have H8 := Lib.hid (H7.out.write (F1 := fun j => j = bm) (mapFrm (F := fun j => j = bm) rfl hg8) (fun j hj => ⟨hj, by rw [hj]; exact hbw⟩))
            have HM8 := Lib.hid hm8
            have u1 : decide ((ss : Int) < 0) = false := by simp
            have u2' : decide ((15 : Int) < (ss : Int)) = false := by simp; omega
            have u3' : decide ((n : Int) < ((cc + 1 : Nat) : Int)) = false := by simp; omega
            have u4' : decide ((n : Int) < (cc : Int) + 1) = false := by simp; omega
            clear b7 HM7 hm8 hg8 HM HF p4 p3
            go_wp2_with fail
            refine (hc_behind H8.out (by omega) m (by unfold InI; omega)).mono ?_
            rintro x w9 ⟨rfl, b9⟩
            have H9 := Lib.hid (H8.out.below b9)
            have HM9 := Lib.hid (HM8.out.below b9)
            clear b9 hrun hl1 hl2 hln H8 HM8 H7
            go_wp2_with fail
            exact ⟨⟨m, _, by omega, p8, rfl, rfl, H9.out, by rw [p6]; exact HM9.out, P5.out⟩, by rw [dm]; exact hmeas_lt p p8 HNX.out⟩
          · have dm : decide (0 < hBeh pr 0 s4) = false := by simpa using p
            rw [dm]
            have HF := Lib.hid (hF.mono (K' := fun _ => False) (fun _ h => h.elim))
            clear hF hM hG dm p
            go_wp2_with fail
            exact ⟨⟨k + 1, s4, last4, _, by omega, by simp, hgg.symm, HF.out, g1, by omega, g3⟩, by simp [intOf]; omega⟩
      · obtain ⟨w2, hw2⟩ : ∃ w2, wr.alloc (.cells #[.int .i64 (kd k), .int .i64 (idf k), .slice ak (kf k).length ck] 32) = w2 := ⟨_, rfl⟩
        have b2 : Below wr.heap.size wr w2 := by rw [← hw2]; exact (Below.refl _ _).alloc (Nat.le_refl _) _
        rw [hw2]
        refine (copy_row (HKY.out.step (Frm.of_below (F := fun _ => False) b2) (fun _ _ h => h)) (by omega)).mono ?_
        rintro x w3 ⟨v3, rfl, hk3, b3, -⟩
        have HC3 := Lib.hid (HF.out.to (stepB b2 b3))
        have HK3 := Lib.hid (hk3.mono (R' := fun j => wr.heap.size ≤ j ∧ j < w3.heap.size) (fun j hj => ⟨Nat.le_trans b2.size hj.1, hj.2⟩))
        clear hw2 b2 hk3 b3
        go_wp2_with fail
        refine (hc_add HC3.out (by omega) (by omega) HK3.out (fun j hj => .inl (.inr hj))).mono ?_
        rintro x w4 ⟨rfl, h4, -⟩
        have hln := (hLay_len (last + 1) (kf k) s).1
        obtain ⟨s4, hs4⟩ : ∃ s4, hLay (last + 1) (kf k) s = s4 := ⟨_, rfl⟩
        obtain ⟨last4, hl4⟩ : ∃ z, last + 1 = z := ⟨_, rfl⟩
        rw [hl4] at hs4 h4 hln
        rw [hs4] at h4 hln
        rw [hl4]
        have H4 := Lib.hid (h4.mono (K' := fun _ => False) (fun _ h => h.elim))
        have e1 : decide (last4 ≤ ll) = false := by simp; omega
        have hb4 : s4.length ≤ k + 1 ∧ last4 ≤ (k : Int) + 1 ∧ last4 ≤ last4 := ⟨by omega, by omega, by omega⟩
        have HB4 := Lib.hid hb4
        clear h4 hln hs4 hl4 hb4 HF HC3 HK3 HKY
        go_upto_region 20 with fail
        clear e1 d0 d1 d2
        obtain ⟨ll4, hll4⟩ : ∃ z, last4 = z := ⟨_, rfl⟩
        have HLL := Lib.hid hll4
        generalize hgg : Value.int .i64 last4 = VL
        obtain ⟨bm, hbm⟩ : ∃ bm, w4.heap.size = bm := ⟨_, rfl⟩
        have hmk : (Instr.makeMap 50 none).run Tryd.prog w4 = .ok (.map (some bm)) (w4.alloc (.map #[] 0)) := by rw [← hbm]; rfl
        have b5 : Below w4.heap.size w4 (w4.alloc (.map #[] 0)) := (Below.refl _ _).alloc (Nat.le_refl _) _
        have him0 := imap_made (.int .i64) ik w4 bm hbm
        obtain ⟨w5, hw5⟩ : ∃ w5, w4.alloc (.map #[] 0) = w5 := ⟨_, rfl⟩
        rw [hw5] at hmk b5 him0
        have H5 := Lib.hid (H4.out.more (K' := fun j => j = bm) b5 (fun j hj => .inr (by have := him0.lt; omega)))
        have HM0 := Lib.hid him0
        have hbw : w0.heap.size ≤ bm := by rw [← hbm]; exact H4.out.bel.size
        clear hw5 b5 him0 hbm H4 c1 ltb
        obtain ⟨g1, g2, g3⟩ := HB4.out
        go_wp2_with fail
        refine (hc_behind H5.out (by omega) 0 (by unfold InI; decide)).mono ?_
        rintro x w6 ⟨rfl, b6⟩
        have H6 := Lib.hid (H5.out.below b6)
        have HM6 := Lib.hid (HM0.out.below b6)
        clear b6 HM0 H5 hmk
        go_wp2_with fail
        go_loopw [9, 10] (fun at' mo wx => ∃ (pr : Int) (g : Int → Option Value), 0 ≤ pr ∧ pr ≤ last4 ∧ at' = .int .i64 (hBeh pr 0 s4) ∧ mo = .bool (decide (0 < hBeh pr 0 s4)) ∧ Hc w0 wx gh s4 last4 (fun j => j = bm) ∧ IMap (.int .i64) ik wx bm g (cle pr s4) ∧ MetH s4 pr g) (fun at' mo _ => hmeas last4 at' mo)
        case atStart => exact ⟨0, _, Int.le_refl _, H6.out.ok.2, rfl, rfl, H6.out, by rw [cle_zero]; exact HM6.out, fun z v hv => by cases hv⟩
        case round =>
          clear H6 HM6
          obtain ⟨pr, g, hp0, hp1, rfl, rfl, hF, hM, hG⟩ := hrel
          by_cases p : 0 < hBeh pr 0 s4
          · obtain ⟨pp, ss, p1, p2, p3, p4, p5, p6, p7, p8⟩ := once_step hF.ok.1 hG p
            have HNX := Lib.hid (fun (h : 0 < hBeh (hBeh pr 0 s4) 0 s4) => hBeh_pos h)
            have hcl := cle_le (hBeh pr 0 s4) s4
            have hll4 := hLen_le s4
            obtain ⟨m, hm⟩ : ∃ m, hBeh pr 0 s4 = m := ⟨_, rfl⟩
            rw [hm] at p p3 p5 p6 p7 p8 HNX hcl
            rw [hm]
            obtain ⟨cc, hcc⟩ : ∃ cc, cle pr s4 = cc := ⟨_, rfl⟩
            rw [hcc] at hM p6
            have HF := Lib.hid hF
            have HM := Lib.hid hM
            have P5 := Lib.hid p5
            have dm : decide (0 < m) = true := by simp; omega
            clear hF hM hG p5 hm hcc
            go_wp2_with fail
            refine (hc_place HF.out m).mono ?_
            rintro x w7 ⟨rfl, b7⟩
            rw [p3]
            have H7 := Lib.hid (HF.out.below b7)
            have HM7 := HM.out.below b7
            have hw1 : IntKind.i64.wrap ((pp : Int) * 16) = (pp : Int) * 16 := by rw [IntKind.wrap_i64]; omega
            have hw2 : IntKind.i64.wrap ((pp : Int) * 16 + (ss : Int)) = (pp : Int) * 16 + (ss : Int) := by rw [IntKind.wrap_i64]; omega
            have hl1 := HM7.look (P := Tryd.prog) (t := 50) Tryd.underlying50 Tryd.underlying3 ik_key (zint w7) ((pp : Int) * 16 + (ss : Int)) false
            rw [p4] at hl1
            simp only [Option.getD_none, Bool.false_eq_true, if_false] at hl1
            obtain ⟨w8, hrun, hm8, hg8, hz8⟩ := HM7.put (P := Tryd.prog) (t := 50) Tryd.underlying50 Tryd.underlying3 ik_key ik_inj ((pp : Int) * 16 + (ss : Int)) (.int .i64 1)
            rw [if_neg (by rw [p4]; decide)] at hm8
            have hl2 := hm8.look (P := Tryd.prog) (t := 50) Tryd.underlying50 Tryd.underlying3 ik_key (zint w8) ((pp : Int) * 16 + (ss : Int)) false
            simp only [if_true, Option.getD_some, Bool.false_eq_true, if_false] at hl2
            have hln := hm8.len (P := Tryd.prog) (t := 50) (ty := 3) Tryd.underlying50
            unfold ik at hl1 hrun hl2
            have H8 := Lib.hid (H7.out.write (F1 := fun j => j = bm) (mapFrm (F := fun j => j = bm) rfl hg8) (fun j hj => ⟨hj, by rw [hj]; exact hbw⟩))
            have HM8 := Lib.hid hm8
            have u1 : decide ((ss : Int) < 0) = false := by simp
            have u2' : decide ((15 : Int) < (ss : Int)) = false := by simp; omega
            have u3' : decide ((n : Int) < ((cc + 1 : Nat) : Int)) = false := by simp; omega
            have u4' : decide ((n : Int) < (cc : Int) + 1) = false := by simp; omega
            clear b7 HM7 hm8 hg8 HM HF p4 p3
            go_wp2_with fail
            refine (hc_behind H8.out (by omega) m (by unfold InI; omega)).mono ?_
            rintro x w9 ⟨rfl, b9⟩
            have H9 := Lib.hid (H8.out.below b9)
            have HM9 := Lib.hid (HM8.out.below b9)
            clear b9 hrun hl1 hl2 hln H8 HM8 H7
            go_wp2_with fail
            exact ⟨⟨m, _, by omega, p8, rfl, rfl, H9.out, by rw [p6]; exact HM9.out, P5.out⟩, by rw [dm]; exact hmeas_lt p p8 HNX.out⟩
          · have dm : decide (0 < hBeh pr 0 s4) = false := by simpa using p
            rw [dm]
            have HF := Lib.hid (hF.mono (K' := fun _ => False) (fun _ h => h.elim))
            clear hF hM hG dm p
            go_wp2_with fail
            exact ⟨⟨k + 1, s4, last4, _, by omega, by simp, hgg.symm, HF.out, g1, by omega, g3⟩, by simp [intOf]; omega⟩
      · obtain ⟨w2, hw2⟩ : ∃ w2, wr.alloc (.cells #[.int .i64 (kd k), .int .i64 (idf k), .slice ak (kf k).length ck] 32) = w2 := ⟨_, rfl⟩
        have b2 : Below wr.heap.size wr w2 := by rw [← hw2]; exact (Below.refl _ _).alloc (Nat.le_refl _) _
        rw [hw2]
        refine (hc_drop (HF.out.below b2) (by omega) (by omega) (idf k)).mono ?_
        rintro x w4 ⟨rfl, h4, -⟩
        have hln := hDrop_len (idf k) s
        obtain ⟨s4, hs4⟩ : ∃ s4, hDrop (idf k) s = s4 := ⟨_, rfl⟩
        rw [hs4] at h4 hln
        obtain ⟨last4, hl4⟩ : ∃ z, last = z := ⟨_, rfl⟩
        rw [hl4] at h4
        have H4 := Lib.hid (h4.mono (K' := fun _ => False) (fun _ h => h.elim))
        have hb4 : s4.length ≤ k + 1 ∧ last4 ≤ (k : Int) + 1 ∧ ll ≤ last4 := ⟨by omega, by omega, by omega⟩
        have HB4 := Lib.hid hb4
        clear h4 hln hs4 hl4 hb4 HF HKY hw2 b2
        go_upto_region 20 with fail
        clear d0 d1 d2
        generalize hgg : Value.int .i64 ll = VL
        obtain ⟨bm, hbm⟩ : ∃ bm, w4.heap.size = bm := ⟨_, rfl⟩
        have hmk : (Instr.makeMap 50 none).run Tryd.prog w4 = .ok (.map (some bm)) (w4.alloc (.map #[] 0)) := by rw [← hbm]; rfl
        have b5 : Below w4.heap.size w4 (w4.alloc (.map #[] 0)) := (Below.refl _ _).alloc (Nat.le_refl _) _
        have him0 := imap_made (.int .i64) ik w4 bm hbm
        obtain ⟨w5, hw5⟩ : ∃ w5, w4.alloc (.map #[] 0) = w5 := ⟨_, rfl⟩
        rw [hw5] at hmk b5 him0
        have H5 := Lib.hid (H4.out.more (K' := fun j => j = bm) b5 (fun j hj => .inr (by have := him0.lt; omega)))
        have HM0 := Lib.hid him0
        have hbw : w0.heap.size ≤ bm := by rw [← hbm]; exact H4.out.bel.size
        clear hw5 b5 him0 hbm H4 c1 ltb
        obtain ⟨g1, g2, g3⟩ := HB4.out
        go_wp2_with fail
        refine (hc_behind H5.out (by omega) 0 (by unfold InI; decide)).mono ?_
        rintro x w6 ⟨rfl, b6⟩
        have H6 := Lib.hid (H5.out.below b6)
        have HM6 := Lib.hid (HM0.out.below b6)
        clear b6 HM0 H5 hmk
        go_wp2_with fail
        go_loopw [9, 10] (fun at' mo wx => ∃ (pr : Int) (g : Int → Option Value), 0 ≤ pr ∧ pr ≤ last4 ∧ at' = .int .i64 (hBeh pr 0 s4) ∧ mo = .bool (decide (0 < hBeh pr 0 s4)) ∧ Hc w0 wx gh s4 last4 (fun j => j = bm) ∧ IMap (.int .i64) ik wx bm g (cle pr s4) ∧ MetH s4 pr g) (fun at' mo _ => hmeas last4 at' mo)
        case atStart => exact ⟨0, _, Int.le_refl _, H6.out.ok.2, rfl, rfl, H6.out, by rw [cle_zero]; exact HM6.out, fun z v hv => by cases hv⟩
        case round =>
          clear H6 HM6
          obtain ⟨pr, g, hp0, hp1, rfl, rfl, hF, hM, hG⟩ := hrel
          by_cases p : 0 < hBeh pr 0 s4
          · obtain ⟨pp, ss, p1, p2, p3, p4, p5, p6, p7, p8⟩ := once_step hF.ok.1 hG p
            have HNX := Lib.hid (fun (h : 0 < hBeh (hBeh pr 0 s4) 0 s4) => hBeh_pos h)
            have hcl := cle_le (hBeh pr 0 s4) s4
            have hll4 := hLen_le s4
            obtain ⟨m, hm⟩ : ∃ m, hBeh pr 0 s4 = m := ⟨_, rfl⟩
            rw [hm] at p p3 p5 p6 p7 p8 HNX hcl
            rw [hm]
            obtain ⟨cc, hcc⟩ : ∃ cc, cle pr s4 = cc := ⟨_, rfl⟩
            rw [hcc] at hM p6
            have HF := Lib.hid hF
            have HM := Lib.hid hM
            have P5 := Lib.hid p5
            have dm : decide (0 < m) = true := by simp; omega
            clear hF hM hG p5 hm hcc
            go_wp2_with fail
            refine (hc_place HF.out m).mono ?_
            rintro x w7 ⟨rfl, b7⟩
            rw [p3]
            have H7 := Lib.hid (HF.out.below b7)
            have HM7 := HM.out.below b7
            have hw1 : IntKind.i64.wrap ((pp : Int) * 16) = (pp : Int) * 16 := by rw [IntKind.wrap_i64]; omega
            have hw2 : IntKind.i64.wrap ((pp : Int) * 16 + (ss : Int)) = (pp : Int) * 16 + (ss : Int) := by rw [IntKind.wrap_i64]; omega
            have hl1 := HM7.look (P := Tryd.prog) (t := 50) Tryd.underlying50 Tryd.underlying3 ik_key (zint w7) ((pp : Int) * 16 + (ss : Int)) false
            rw [p4] at hl1
            simp only [Option.getD_none, Bool.false_eq_true, if_false] at hl1
            obtain ⟨w8, hrun, hm8, hg8, hz8⟩ := HM7.put (P := Tryd.prog) (t := 50) Tryd.underlying50 Tryd.underlying3 ik_key ik_inj ((pp : Int) * 16 + (ss : Int)) (.int .i64 1)
            rw [if_neg (by rw [p4]; decide)] at hm8
            have hl2 := hm8.look (P := Tryd.prog) (t := 50) Tryd.underlying50 Tryd.underlying3 ik_key (zint w8) ((pp : Int) * 16 + (ss : Int)) false
            simp only [if_true, Option.getD_some, Bool.false_eq_true, if_false] at hl2
            have hln := hm8.len (P := Tryd.prog) (t := 50) (ty := 3) Tryd.underlying50
            unfold ik at hl1 hrun hl2
            have H8 := Lib.hid (H7.out.write (F1 := fun j => j = bm) (mapFrm (F := fun j => j = bm) rfl hg8) (fun j hj => ⟨hj, by rw [hj]; exact hbw⟩))
            have HM8 := Lib.hid hm8
            have u1 : decide ((ss : Int) < 0) = false := by simp
            have u2' : decide ((15 : Int) < (ss : Int)) = false := by simp; omega
            have u3' : decide ((n : Int) < ((cc + 1 : Nat) : Int)) = false := by simp; omega
            have u4' : decide ((n : Int) < (cc : Int) + 1) = false := by simp; omega
            clear b7 HM7 hm8 hg8 HM HF p4 p3
            go_wp2_with fail
            refine (hc_behind H8.out (by omega) m (by unfold InI; omega)).mono ?_
            rintro x w9 ⟨rfl, b9⟩
            have H9 := Lib.hid (H8.out.below b9)
            have HM9 := Lib.hid (HM8.out.below b9)
            clear b9 hrun hl1 hl2 hln H8 HM8 H7
            go_wp2_with fail
            exact ⟨⟨m, _, by omega, p8, rfl, rfl, H9.out, by rw [p6]; exact HM9.out, P5.out⟩, by rw [dm]; exact hmeas_lt p p8 HNX.out⟩
          · have dm : decide (0 < hBeh pr 0 s4) = false := by simpa using p
            rw [dm]
            have HF := Lib.hid (hF.mono (K' := fun _ => False) (fun _ h => h.elim))
            clear hF hM hG dm p
            go_wp2_with fail
            exact ⟨⟨k + 1, s4, last4, _, by omega, by simp, hgg.symm, HF.out, g1, by omega, g3⟩, by simp [intOf]; omega⟩
      · obtain ⟨w2, hw2⟩ : ∃ w2, wr.alloc (.cells #[.int .i64 (kd k), .int .i64 (idf k), .slice ak (kf k).length ck] 32) = w2 := ⟨_, rfl⟩
        have b2 : Below wr.heap.size wr w2 := by rw [← hw2]; exact (Below.refl _ _).alloc (Nat.le_refl _) _
        have hbx : w2.heap[wr.heap.size]? = some (.cells #[.int .i64 (kd k), .int .i64 (idf k), .slice ak (kf k).length ck] 32 (0, 0)) := by rw [← hw2]; exact heap_alloc_new wr _
        rw [hw2]
        have HK2 := Lib.hid (HKY.out.step (Frm.of_below (F := fun _ => False) (b2.drew)) (fun _ _ h => h))
        have HCP := Lib.hid (copy_row HK2.out (by omega))
        have HC2 := Lib.hid (HF.out.below b2.drew)
        have HBX := Lib.hid hbx
        have x1 : w2.cell? ⟨wr.heap.size, 1, none⟩ = some (.int .i64 (idf k)) := by rw [cell_of_block hbx]; rfl
        have x2 : w2.cell? ⟨wr.heap.size, 2, none⟩ = some (.slice ak (kf k).length ck) := by rw [cell_of_block hbx]; rfl
        have hbl : wr.heap.size < w2.heap.size := (Array.getElem?_eq_some_iff.1 hbx).1
        clear hw2 b2 hbx d0 d1 d2
        go_region_with (first
          | (go_at_call 10; refine HCP.out.mono ?_; rintro x w3 ⟨v3, rfl, hk3, b3, hv3⟩; have HC3 := Lib.hid (HC2.out.to b3); have HK3 := Lib.hid (hk3.mono (R' := fun j => w2.drew.heap.size ≤ j ∧ j < w3.heap.size) (fun j hj => hj)); have y1 : w3.cell? ⟨wr.heap.size, 1, none⟩ = some (.int .i64 (idf k)) := (b3.cell (p := ⟨wr.heap.size, 1, none⟩) hbl).trans x1; clear hk3 b3 hv3)
          | (go_at_call 15; refine (hc_back HC3.out (by omega) (by omega) (idf k) HK3.out (fun j hj => .inl (.inr hj))).mono ?_; rintro x w4 ⟨rfl, h4, -⟩; have HC4 := Lib.hid (h4.mono (K' := fun _ => False) (fun _ h => h.elim)); clear h4))
        all_goals
          go_upto_region 20 with fail
          clear x1 x2 y1 HC2 HC3 HK3 HK2 HCP HBX HF HKY hbl
          have HB4 := Lib.hid (show (if 1 ≤ idf k ∧ idf k ≤ last ∧ hFind (idf k) s < 0 then hLay (idf k) (kf k) s else s).length ≤ k + 1 ∧ last ≤ (k : Int) + 1 ∧ ll ≤ last by
            have := (hLay_len (idf k) (kf k) s).1
            refine ⟨?_, by omega, hll⟩
            split <;> omega)
          obtain ⟨s4, hs4⟩ : ∃ s4, (if 1 ≤ idf k ∧ idf k ≤ last ∧ hFind (idf k) s < 0 then hLay (idf k) (kf k) s else s) = s4 := ⟨_, rfl⟩
          obtain ⟨last4, hl4⟩ : ∃ z, last = z := ⟨_, rfl⟩
          have H4 := HC4
          rw [hs4, hl4] at H4 HB4
          clear HC4 hs4 hl4
          generalize hgg : Value.int .i64 ll = VL
          obtain ⟨bm, hbm⟩ : ∃ bm, w4.heap.size = bm := ⟨_, rfl⟩
          have hmk : (Instr.makeMap 50 none).run Tryd.prog w4 = .ok (.map (some bm)) (w4.alloc (.map #[] 0)) := by rw [← hbm]; rfl
          have b5 : Below w4.heap.size w4 (w4.alloc (.map #[] 0)) := (Below.refl _ _).alloc (Nat.le_refl _) _
          have him0 := imap_made (.int .i64) ik w4 bm hbm
          obtain ⟨w5, hw5⟩ : ∃ w5, w4.alloc (.map #[] 0) = w5 := ⟨_, rfl⟩
          rw [hw5] at hmk b5 him0
          have H5 := Lib.hid (H4.out.more (K' := fun j => j = bm) b5 (fun j hj => .inr (by have := him0.lt; omega)))
          have HM0 := Lib.hid him0
          have hbw : w0.heap.size ≤ bm := by rw [← hbm]; exact H4.out.bel.size
          clear hw5 b5 him0 hbm H4 c1 ltb
          obtain ⟨g1, g2, g3⟩ := HB4.out
          go_wp2_with fail
          refine (hc_behind H5.out (by omega) 0 (by unfold InI; decide)).mono ?_
          rintro x w6 ⟨rfl, b6⟩
          have H6 := Lib.hid (H5.out.below b6)
          have HM6 := Lib.hid (HM0.out.below b6)
          clear b6 HM0 H5 hmk
          go_wp2_with fail
          go_loopw [9, 10] (fun at' mo wx => ∃ (pr : Int) (g : Int → Option Value), 0 ≤ pr ∧ pr ≤ last4 ∧ at' = .int .i64 (hBeh pr 0 s4) ∧ mo = .bool (decide (0 < hBeh pr 0 s4)) ∧ Hc w0 wx gh s4 last4 (fun j => j = bm) ∧ IMap (.int .i64) ik wx bm g (cle pr s4) ∧ MetH s4 pr g) (fun at' mo _ => hmeas last4 at' mo)
          case atStart => exact ⟨0, _, Int.le_refl _, H6.out.ok.2, rfl, rfl, H6.out, by rw [cle_zero]; exact HM6.out, fun z v hv => by cases hv⟩
          case round =>
            clear H6 HM6
            obtain ⟨pr, g, hp0, hp1, rfl, rfl, hF, hM, hG⟩ := hrel
            by_cases p : 0 < hBeh pr 0 s4
            · obtain ⟨pp, ss, p1, p2, p3, p4, p5, p6, p7, p8⟩ := once_step hF.ok.1 hG p
              have HNX := Lib.hid (fun (h : 0 < hBeh (hBeh pr 0 s4) 0 s4) => hBeh_pos h)
              have hcl := cle_le (hBeh pr 0 s4) s4
              have hll4 := hLen_le s4
              obtain ⟨m, hm⟩ : ∃ m, hBeh pr 0 s4 = m := ⟨_, rfl⟩
              rw [hm] at p p3 p5 p6 p7 p8 HNX hcl
              rw [hm]
              obtain ⟨cc, hcc⟩ : ∃ cc, cle pr s4 = cc := ⟨_, rfl⟩
              rw [hcc] at hM p6
              have HF := Lib.hid hF
              have HM := Lib.hid hM
              have P5 := Lib.hid p5
              have dm : decide (0 < m) = true := by simp; omega
              clear hF hM hG p5 hm hcc
              go_wp2_with fail
              refine (hc_place HF.out m).mono ?_
              rintro x w7 ⟨rfl, b7⟩
              rw [p3]
              have H7 := Lib.hid (HF.out.below b7)
              have HM7 := HM.out.below b7
              have hw1 : IntKind.i64.wrap ((pp : Int) * 16) = (pp : Int) * 16 := by rw [IntKind.wrap_i64]; omega
              have hw2 : IntKind.i64.wrap ((pp : Int) * 16 + (ss : Int)) = (pp : Int) * 16 + (ss : Int) := by rw [IntKind.wrap_i64]; omega
              have hl1 := HM7.look (P := Tryd.prog) (t := 50) Tryd.underlying50 Tryd.underlying3 ik_key (zint w7) ((pp : Int) * 16 + (ss : Int)) false
              rw [p4] at hl1
              simp only [Option.getD_none, Bool.false_eq_true, if_false] at hl1
              obtain ⟨w8, hrun, hm8, hg8, hz8⟩ := HM7.put (P := Tryd.prog) (t := 50) Tryd.underlying50 Tryd.underlying3 ik_key ik_inj ((pp : Int) * 16 + (ss : Int)) (.int .i64 1)
              rw [if_neg (by rw [p4]; decide)] at hm8
              have hl2 := hm8.look (P := Tryd.prog) (t := 50) Tryd.underlying50 Tryd.underlying3 ik_key (zint w8) ((pp : Int) * 16 + (ss : Int)) false
              simp only [if_true, Option.getD_some, Bool.false_eq_true, if_false] at hl2
              have hln := hm8.len (P := Tryd.prog) (t := 50) (ty := 3) Tryd.underlying50
              unfold ik at hl1 hrun hl2
              have H8 := Lib.hid (H7.out.write (F1 := fun j => j = bm) (mapFrm (F := fun j => j = bm) rfl hg8) (fun j hj => ⟨hj, by rw [hj]; exact hbw⟩))
              have HM8 := Lib.hid hm8
              have u1 : decide ((ss : Int) < 0) = false := by simp
              have u2' : decide ((15 : Int) < (ss : Int)) = false := by simp; omega
              have u3' : decide ((n : Int) < ((cc + 1 : Nat) : Int)) = false := by simp; omega
              have u4' : decide ((n : Int) < (cc : Int) + 1) = false := by simp; omega
              clear b7 HM7 hm8 hg8 HM HF p4 p3
              go_wp2_with fail
              refine (hc_behind H8.out (by omega) m (by unfold InI; omega)).mono ?_
              rintro x w9 ⟨rfl, b9⟩
              have H9 := Lib.hid (H8.out.below b9)
              have HM9 := Lib.hid (HM8.out.below b9)
              clear b9 hrun hl1 hl2 hln H8 HM8 H7
              go_wp2_with fail
              exact ⟨⟨m, _, by omega, p8, rfl, rfl, H9.out, by rw [p6]; exact HM9.out, P5.out⟩, by rw [dm]; exact hmeas_lt p p8 HNX.out⟩
            · have dm : decide (0 < hBeh pr 0 s4) = false := by simpa using p
              rw [dm]
              have HF := Lib.hid (hF.mono (K' := fun _ => False) (fun _ h => h.elim))
              clear hF hM hG dm p
              go_wp2_with fail
              exact ⟨⟨k + 1, s4, last4, _, by omega, by simp, hgg.symm, HF.out, g1, by omega, g3⟩, by simp [intOf]; omega⟩
    · have c1 : ¬ (k : Int) < (n : Int) := by omega
      obtain rfl : n = k := by omega
      have HB := Lib.hid (B0.out.trans (hF.bel.mono B0.out.size))
      clear hF H1
      go_wp2_with fail
      go_ret
      exact ⟨rfl, HB.out⟩

/-- a world for the witness: the listed variables hold what is laid -/
noncomputable def laidWorld (os : Os) : World :=
  { World.holding Tryd.prog os ⟨#[], #[], []⟩ with heap := ((World.holding Tryd.prog os ⟨#[], #[], []⟩).heap.modify 2 fun
      | .cells _ t frozen => .cells #[.int .u8 0, .int .u8 1, .int .u8 56, .int .u8 2, .int .u8 57, .int .u8 49, .int .u8 28, .int .u8 3, .int .u8 61, .int .u8 58, .int .u8 42, .int .u8 50, .int .u8 38, .int .u8 29, .int .u8 17, .int .u8 4, .int .u8 62, .int .u8 47, .int .u8 59, .int .u8 36, .int .u8 45, .int .u8 43, .int .u8 51, .int .u8 22, .int .u8 53, .int .u8 39, .int .u8 33, .int .u8 30, .int .u8 24, .int .u8 18, .int .u8 12, .int .u8 5, .int .u8 63, .int .u8 55, .int .u8 48, .int .u8 27, .int .u8 60, .int .u8 41, .int .u8 37, .int .u8 16, .int .u8 46, .int .u8 35, .int .u8 44, .int .u8 21, .int .u8 52, .int .u8 32, .int .u8 23, .int .u8 11, .int .u8 54, .int .u8 26, .int .u8 40, .int .u8 15, .int .u8 34, .int .u8 20, .int .u8 31, .int .u8 10, .int .u8 25, .int .u8 14, .int .u8 19, .int .u8 9, .int .u8 13, .int .u8 8, .int .u8 7, .int .u8 6] t frozen
      | o => o) }
theorem laid_met (os : Os) : laidMetH Tryd.prog Rows.heapOnceUptoRow.laid ((laidWorld os).forCall (fun _ _ => 0) ⟨#[], #[.slice none 0 0], []⟩).memory :=
  laidMet_of_run' 8 (by kernel_rfl) (by kernel_rfl)
theorem reads (os : Os) {H : Type} (enc : TypeId × Value → H) : ∃ places, DataW.whole enc Tryd.prog ((laidWorld os).forCall (fun _ _ => 0) ⟨#[], #[.slice none 0 0], []⟩).memory Tryd.f5.params.toList Rows.heapOnceSpec.vars false (#[.slice none 0 0] : Array Value).toList 8 = some ([.nil], [], places) :=
  ⟨[], by kernel_rfl⟩

set_option maxRecDepth 100000 in
theorem lifted (os : Os) (started : os.Started) (H : Type) (enc : TypeId × Value → H) (F : Stop.Interp) :
    ReturnsInHanded {} Tryd.checked os 5 .any ((Rows.OpenSpec.upto Rows.heapOnceSpec).preRow enc Tryd.prog Tryd.f5 Rows.heapOnceUptoRow.domain false Rows.heapOnceUptoRow.laid) (((Rows.OpenSpec.upto Rows.heapOnceSpec).at F).post enc Tryd.prog Tryd.f5 false true false false) := by
  obtain ⟨places, hx⟩ := reads os enc
  refine returnsInHanded_of_row (C := Tryd.checked) (s := (Rows.OpenSpec.upto Rows.heapOnceSpec)) own started (by kernel_rfl) Tryd.func5
    (witness_row_at (enc := enc) (C := Tryd.checked) false (laidWorld os) #[.slice none 0 0] rfl (by kernel_rfl) (by kernel_rfl) (by kernel_rfl)
      (OpenSpec.preRow_of_cond 8 hx (by kernel_rfl) (fun k hk => by cases hk; kernel_rfl) (by kernel_rfl) (laid_met os))) ?_
  intro W base args ds gs before hval0 hW _ hcond _ hL _ _
  have hval : ∀ (j : Nat) t v, Tryd.f5.params[j]? = some t → args[j]? = some v → Value.okWide Tryd.prog W .any base t v := hval0
  have hW' := hW
  obtain ⟨p, q, hA0, hV, rfl, hfz, hnd⟩ := hW
  have hA : DataW.TrodAll enc Tryd.prog W 0 (fun _ => true) true Tryd.f5.params.toList args.toList ds p := hA0
  rw [Tryd.params5] at hA hval
  obtain ⟨v0, vs0, d0, ds0, p0, q0, hargs, rfl, rfl, h0, r0⟩ := trodAll_cons hA
  obtain ⟨rfl, rfl, rfl⟩ := trodAll_nil r0
  obtain rfl : args = #[v0] := by cases args; simp_all
  obtain ⟨rfl, rfl⟩ := trodVars_none hV
  have hk : Rows.uptoSmall H [d0] = true := hcond _ rfl
  have lt0 : ∀ x ∈ p0, x.block < W.heap.size := by obtain ⟨m, hm⟩ := h0; exact DataW.trod_lt m _ _ _ hm
  refine (walk (enc := enc) base v0 d0 p0 W (hval 0 22 v0 rfl rfl) h0 hk hL).mono fun e W' ⟨he, bel⟩ => ?_
  subst he
  exact ⟨_, rfl, _, _, _, [], _, [], hW', trodAll_mk1 (shut_bool Tryd.underlying4 _), (trodAll_cons_mk (Below.trod laidOut (by kernel_rfl) (of_decide_eq_true (by kernel_rfl)) h0 bel lt0) trodAll_mk0), rfl, bel.frame _, fun h => by cases h⟩

theorem said : Rows.HeapOnceUptoSaid :=
  OpenClaim.holds_of_cond 5 Tryd.f5 rfl rfl rfl rfl rfl rfl rfl ⟨rfl, rfl, rfl, rfl, rfl⟩ rfl rfl rfl rfl rfl (by kernel_rfl) Tryd.func5 (by kernel_rfl)
    (of_decide_eq_true (by kernel_rfl)) (by unfold Func.isWrapper; first | (rw [if_pos (by decide +kernel)]; kernel_rfl) | (rw [if_neg (by decide +kernel)]; exact ⟨rfl, rfl⟩))
    (fun os started H enc _ F => by rw [OpenClaim.pre_eq_preRow]; exact lifted os started H enc F)
theorem plain (f : FuncId) (fn : Func) (hf : Tryd.pinned.checked.prog.funcNamed "hasp/hasplaw08.HeapOnce" = some f) (hfn : Tryd.pinned.checked.prog.funcs[f]? = some fn) :
    false = Tryd.pinned.checked.prog.looks [] ∧ ∀ (j : Nat) t, fn.params[j]? = some t → Tryd.pinned.checked.prog.wantsStandIn t = false := by
  obtain rfl : f = 5 := Option.some.inj ((show Tryd.prog.funcNamed "hasp/hasplaw08.HeapOnce" = some 5 by kernel_rfl).symm.trans hf) |>.symm
  obtain rfl : fn = Tryd.f5 := (Option.some.inj (Tryd.func5.symm.trans hfn)).symm
  refine ⟨by kernel_rfl, fun j t ht => ?_⟩
  rw [Tryd.params5] at ht
  have hm : t ∈ ([22] : List TypeId) := by simpa using Array.mem_of_getElem? ht
  have hall : (([22] : List TypeId).all fun u => !Tryd.prog.wantsStandIn u) = true := by kernel_rfl
  exact (show Tryd.prog.wantsStandIn t = false by simpa using List.all_eq_true.1 hall t hm)

theorem proved : Rows.HeapOnceUptoCardSaid :=
  Claim7.holds_tied_plain_at .later [] _ _ _ _ said (fun _ h => by cases h) (by kernel_rfl) (fun _ h => by cases h) heapOnceUpto_row_tie rfl ⟨rfl, rfl⟩ (by kernel_rfl) rfl plain (by kernel_rfl)
end Go.Proofs.YtmmchhlfbhbigaaDoor.heapOnce
