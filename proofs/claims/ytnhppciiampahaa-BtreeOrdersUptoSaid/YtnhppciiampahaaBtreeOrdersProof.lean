/-
  BtreeOrders answers true at any list of keys and any key, of a bulk of at most 1048576: two trees that got the same keys in turned orders have the same entries, and the first from a key on is the one that From finds.
  Conditions: none but the row's own.
-/
import Derived.Test.YtnhppciiampahaaTr27
import Derived.Test.YtnhppciiampahaaRows
import Derived.WalkKit
import Derived.ProofKit
import Derived.OpenShut
import Derived.ShutString
import Derived.ChangeOld
import Derived.Below
import Derived.Carry
import Derived.JoinedCond
namespace Go.Proofs.Ytnhppciiampahaa.btreeOrders
open Go.ChangeShapes Go.WideShapes Go.ChangeAt Go.RowKit
open Go.Joins
set_option linter.unusedVariables false

theorem own : ownKnob Try.prog.godebug = none := by kernel_rfl
theorem laidOut : laidOutB Try.prog = true := by kernel_rfl


set_option maxHeartbeats 4000000 in
theorem walk {H : Type} {enc : TypeId × Value → H} (base : Nat) (v0 : Value) (d0 : DataW H) (p0 : List MemPlace) (v1 : Value) (d1 : DataW H) (p1 : List MemPlace) (W : World)
    (o0 : Value.okWide Try.prog W .any base 52 v0) (h0 : DataW.Trod enc Try.prog W 0 (fun _ => true) true 52 v0 d0 p0)
    (o1 : Value.okWide Try.prog W .any base 29 v1) (h1 : DataW.Trod enc Try.prog W 0 (fun _ => true) true 29 v1 d1 p1)
    (hk : Rows.uptoSmall H [d0, d1] = true) :
    Calls Try.prog 6 #[v0, v1] W fun e w' => e = .returned (.bool true) ∧ Below W.heap.size W w' := by
  obtain ⟨a, m, cap, b, off, kf, kv, rfl, hm, ha, hK⟩ := open_keys o0 h0 (up_arg hk (by simp))
  obtain ⟨a', k0, cap', b', off', rfl, g1, g2, g3, g4, -⟩ := open_bytes o1 h1 (up_arg hk (by simp))
  have hu1 : KeyAt W (fun _ => True) (.slice a' k0.length cap') k0 := ⟨a', b', off', cap', rfl, g3.imp_right fun h => ⟨h, trivial⟩, g4⟩
  have hl1 : k0.length ≤ 1048576 := by omega
  clear g3 g4
  have HS := Lib.hid speaks_any
  clear o0 h0 o1 h1 hk
  go_enter Try.func6, Try.ntmps6
  go_wp2_with fail
  refine (HS.out _).mono ?_
  rintro x w0 ⟨rfl, b0⟩
  have K0 := Lib.hid (hK.below b0)
  have U0 := Lib.hid (hu1.step (Frm.of_below (F := fun _ => False) b0) (fun _ _ h => h))
  have B0 := Lib.hid b0
  clear hK hu1 b0
  go_wp2_with fail
  refine (tc_new w0).mono ?_
  rintro x w1 ⟨t1, rfl, hT, -⟩
  go_wp2_with fail
  refine (tt_new w0 w1 t1 hT).mono ?_
  rintro x w2 ⟨t2, rfl, hT2⟩
  have HT := Lib.hid hT2
  clear hT hT2
  go_upto_region 7 with fail
  go_wp2_with fail
  go_loopw [28] (fun i wx => ∃ (k : Nat) (es : List Ent), k ≤ m ∧ i = .int .i64 k ∧ TT w0 wx t1 es t2 [] ∧ OrdE kf 0 k es ∧ es.length ≤ k) (fun i _ => m - (intOf i).toNat)
  case atStart => exact ⟨0, [], Nat.zero_le _, rfl, HT.out, fun e => ⟨fun h => by simp at h, fun ⟨j, q1, q2, _⟩ => by omega⟩, Nat.le_refl _⟩
  case round =>
    obtain ⟨k, es, hk1, rfl, hF, hO, hln⟩ := hrel
    by_cases q : k < m
    · have c1 : (k : Int) < (m : Int) := by omega
      have K1 := Lib.hid (K0.out.below hF.bel)
      have d0 := K1.out.cell k q
      obtain rfl : a = some ⟨b, off, none⟩ := by
        rcases ha with g | g
        · omega
        · exact g
      have hky := K1.out.key k q
      have hkl := K1.out.len k q
      have HCP := Lib.hid (copy_key hky (by omega))
      obtain ⟨ak, bk, ok, ck, ekv, -⟩ := hky
      have HF := Lib.hid hF
      have HO := Lib.hid hO
      clear hF ha hO K1
      rw [ekv] at d0 HCP
      clear ekv
      go_wp2_with fail
      refine HCP.out.mono ?_
      rintro x w3 ⟨v, rfl, hv, b2⟩
      have HF2 := Lib.hid (HF.out.below b2)
      have HV := Lib.hid hv
      clear hv b2 d0
      go_wp2_with fail
      refine (tt_put HF2.out (by omega) HV.out ((kf k).length : Int)).mono ?_
      rintro x w4 ⟨⟨bb, rfl⟩, h3⟩
      have HF3 := Lib.hid h3
      clear h3
      go_wp2_with fail
      exact ⟨⟨k + 1, _, by omega, by simp, HF3.out, HO.out.put (fun j => by omega), by have := ePut_le es (kf k) ((kf k).length : Int); omega⟩, by simp [intOf]; omega⟩
    · have c1 : ¬ (k : Int) < (m : Int) := by omega
      obtain rfl : m = k := by omega
      have HF := Lib.hid hF
      have HO := Lib.hid hO
      clear hF hO
      go_upto_region 12 with fail
      go_wp2_with fail
      go_loopw [9] (fun i wx => ∃ (q : Nat) (es2 : List Ent), q ≤ m ∧ i = .int .i64 ((q : Int) - 1) ∧ TT w0 wx t1 es t2 es2 ∧ OrdE kf q m es2 ∧ es2.length ≤ m - q) (fun i _ => (intOf i + 1).toNat)
      case atStart => exact ⟨m, [], Nat.le_refl _, rfl, HF.out, fun e => ⟨fun h => by simp at h, fun ⟨j, q1, q2, _⟩ => by omega⟩, Nat.zero_le _⟩
      case round =>
        obtain ⟨q, es2, hq1, rfl, hF, hO2, hln2⟩ := hrel
        rcases q with - | j
        · have c2 : ¬ (0 : Int) ≤ ((0 : Nat) : Int) - 1 := by omega
          have he : es = es2 := HO.out.eq hO2 hF.srt hF.swap.srt
          subst he
          have HF3 := Lib.hid hF
          clear hF hO2
          go_upto_region 15 with fail
          go_wp2_with fail
          refine (tt_ents HF3.out (by omega)).mono ?_
          rintro x w5 ⟨v5, L5, rfl, h5⟩
          have HE5 := Lib.hid h5
          have HF5 := Lib.hid (HF3.out.below h5.bel)
          clear h5
          go_wp2_with fail
          refine (tt_ents HF5.out.swap (by omega)).mono ?_
          rintro x w6 ⟨v6, L6, rfl, h6⟩
          have HF6 := Lib.hid (HF5.out.below h6.bel)
          have HSM := Lib.hid (same_ents HE5.out h6.bel h6 (by unfold maxLen; omega))
          obtain ⟨g6, cap6, kv6, e6, hr6⟩ := (HE5.out.step h6.bel).row
          have HR6 := Lib.hid hr6
          clear h6 hr6 HE5
          subst e6
          go_wp2_with fail
          refine HSM.out.mono ?_
          rintro x w7 ⟨rfl, b7⟩
          have HF7 := Lib.hid (HF6.out.below b7)
          have HR7 := Lib.hid (HR6.out.below b7)
          have U7 := Lib.hid (U0.out.step (Frm.of_below (F := fun _ => False) HF7.out.bel) (fun _ _ h => h))
          clear b7
          obtain ⟨n6, hn6⟩ : ∃ n, es.length = n := ⟨_, rfl⟩
          rw [hn6] at HR7
          have HN6 := Lib.hid hn6
          have HKL := Lib.hid (show ∀ e ∈ es, e.1.length ≤ maxLen from fun e he => by
            obtain ⟨j, -, q2, rfl⟩ := (HO.out e).1 he
            have := K0.out.len j q2
            show (kf j).length ≤ maxLen
            unfold maxLen
            omega)
          go_wp2_with fail
          refine (copy_key U7.out (by omega)).mono ?_
          rintro x w8 ⟨v8, rfl, hv8, b8⟩
          have HF8 := Lib.hid (HF7.out.below b8)
          have HR8 := Lib.hid (HR7.out.below b8)
          have U8 := Lib.hid (U7.out.step (Frm.of_below (F := fun _ => False) b8) (fun _ _ h => h))
          have HV8 := Lib.hid hv8
          clear b8 hv8
          go_wp2_with fail
          refine (tt_from HF8.out HV8.out).mono ?_
          rintro x w9 ⟨b9, hx⟩
          rcases hx with ⟨x, v9, q1, q2, rfl⟩ | ⟨q1, rfl⟩
          · have HN9 := Lib.hid q1
            have HB9 := Lib.hid b9
            clear q1 b9
            obtain ⟨g9, cap9, rfl, q3⟩ := q2
            have q4 : OwK w9 w8.heap.size (.slice (some ⟨g9, 0, none⟩) x.1.length cap9) x.1 := ⟨g9, cap9, rfl, q3⟩
            have hk9 : KeyAt w9 (fun _ => True) (.slice (some ⟨g9, 0, none⟩) x.1.length cap9) x.1 := q4.keyAt (fun _ _ => trivial)
            have HK9 := Lib.hid hk9
            clear q3 q4 hk9
            obtain ⟨xk, xn⟩ := x
            dsimp only at HN9 HK9
            dsimp only
            go_upto_region 20 with fail
            obtain ⟨b10, hb10⟩ : ∃ b, w9.heap.size = b := ⟨_, rfl⟩
            obtain ⟨w10, hw10, h101, h102⟩ : ∃ w7, w9.alloc (.cells #[.slice (some ⟨g9, 0, none⟩) xk.length cap9, .int .i64 xn] 42) = w7 ∧ w7.heap[b10]? = some (.cells #[.slice (some ⟨g9, 0, none⟩) xk.length cap9, .int .i64 xn] 42 (0, 0)) ∧ Below w9.heap.size w9 w7 := ⟨_, rfl, by rw [← hb10]; exact heap_alloc_new _ _, (Below.refl _ _).alloc (Nat.le_refl _) _⟩
            have HQ := Lib.hid h101
            have HR10 := Lib.hid (HR8.out.below (stepB HB9.out h102))
            have HF10 := Lib.hid (HF8.out.below (stepB HB9.out h102))
            have U10 := Lib.hid (U8.out.step (Frm.of_below (F := fun _ => False) (stepB HB9.out h102)) (fun _ _ h => h))
            have HK10 := Lib.hid (HK9.out.step (Frm.of_below (F := fun _ => False) h102) (fun _ _ h => h))
            clear HK9
            rw [hw10, hb10]
            clear h101 h102 hw10 hb10 HB9
            go_wp2_with fail
            go_loopw [75] (fun i wx => ∃ q : Nat, q ≤ n6 ∧ i = .int .i64 q ∧ Below w10.heap.size w10 wx ∧ ∀ j, j < q → ∀ e, es[j]? = some e → klt e.1 k0) (fun i _ => n6 - (intOf i).toNat)
            case atStart => exact ⟨0, Nat.zero_le _, rfl, Below.refl _ _, fun j h => absurd h (by omega)⟩
            case round =>
              obtain ⟨q, hq, rfl, hbr, hlt⟩ := hrel
              have HBR := Lib.hid hbr
              have HLT := Lib.hid hlt
              clear hbr hlt
              by_cases c6 : q < n6
              · have c7 : (q : Int) < (n6 : Int) := by omega
                have hye : es[q]? = some (es[q]'(by rw [HN6.out]; exact c6)) := List.getElem?_eq_getElem _
                generalize es[q]'(by rw [HN6.out]; exact c6) = y at *
                have HY := Lib.hid hye
                obtain ⟨d0, d1, hky⟩ := (HR10.out.below HBR.out).at_ q y hye
                have ltg : g6 < wr.heap.size := (HR10.out.below HBR.out).lt
                obtain ⟨ay, by_, oy, cy, ey, -⟩ := id hky
                obtain ⟨yk, yn⟩ := y
                dsimp only at d1 hky ey hye
                rw [ey] at d0 hky
                have HKY := Lib.hid hky
                have hyl : yk.length ≤ maxLen := HKL.out (yk, yn) (List.mem_of_getElem? hye)
                have HO6 := Lib.hid (fun wx (hb : Below wr.heap.size wr wx) => key_ord (hky.step (Frm.of_below (F := fun _ => False) hb) (fun _ _ h => h)) (U10.out.step (Frm.of_below (F := fun _ => False) (stepB HBR.out hb)) (fun _ _ h => h)) hyl (by unfold maxLen; omega))
                obtain ⟨z, hz⟩ : ∃ z, ordB yk k0 = z := ⟨_, rfl⟩
                have HZ := Lib.hid hz
                rw [hz] at HO6
                clear hky ey hye hz
                by_cases z0 : 0 ≤ z
                · have hhit := from_here HLT.out HY.out (fun h => (klt_iff _ _).1 h (by rw [HZ.out]; exact z0))
                  rw [HN9.out] at hhit
                  injection hhit with hhit
                  injection hhit with e1 e2
                  subst e1
                  clear e2
                  go_wp2_with fail
                  refine (HO6.out _ ((Below.refl _ _).alloc (Nat.le_refl _) _)).mono ?_
                  rintro x w11 ⟨rfl, b11⟩
                  have HB11 := Lib.hid (stepB (stepB HBR.out ((Below.refl _ _).alloc (Nat.le_refl _) _)) b11)
                  have hwr := stepB ((Below.refl wr.heap.size wr).alloc (Nat.le_refl _) _) b11
                  have y0 : w11.cell? ⟨b10, 0, none⟩ = some (.slice (some ⟨g9, 0, none⟩) xk.length cap9) := by rw [cell_of_block ((HB11.out.block _ (Array.getElem?_eq_some_iff.1 HQ.out).1).trans HQ.out)]; rfl
                  have y1 : w11.cell? ⟨wr.heap.size, 0, none⟩ = some (.slice ay xk.length cy) := by rw [cell_of_block ((b11.block _ (by simp)).trans (heap_alloc_new wr _))]; rfl
                  have y2 : (convert 29 9 (.slice (some ⟨g9, 0, none⟩) xk.length cap9)).run Try.prog w11 = .ok (.string (strB xk)) w11 := (HK10.out.step (Frm.of_below (F := fun _ => False) HB11.out) (fun _ _ h => h)).str
                  have y3 : (convert 29 9 (.slice ay xk.length cy)).run Try.prog w11 = .ok (.string (strB xk)) w11 := (HKY.out.step (Frm.of_below (F := fun _ => False) hwr) (fun _ _ h => h)).str
                  have t1 : ((strB xk).toList == (strB xk).toList) = true := by simp
                  have HBE := Lib.hid (HF10.out.below HB11.out).bel
                  clear b11 hwr
                  go_wp2_with fail
                  go_ret
                  first
                    | exact ⟨rfl, B0.out.trans (HBE.out.mono B0.out.size)⟩
                    | exact ⟨by simp, B0.out.trans (HBE.out.mono B0.out.size)⟩
                · go_wp2_with fail
                  refine (HO6.out _ ((Below.refl _ _).alloc (Nat.le_refl _) _)).mono ?_
                  rintro x w11 ⟨rfl, b11⟩
                  have HB11 := Lib.hid (stepB (stepB HBR.out ((Below.refl _ _).alloc (Nat.le_refl _) _)) b11)
                  clear b11
                  go_wp2_with fail
                  refine ⟨⟨q + 1, by omega, by simp, HB11.out, fun j hj e he => ?_⟩, by simp [intOf]; omega⟩
                  rcases Nat.lt_succ_iff_lt_or_eq.1 hj with h | rfl
                  · exact HLT.out j h e he
                  · rw [HY.out] at he
                    cases he
                    exact (klt_iff _ _).2 (by rw [HZ.out]; omega)
              · have c7 : ¬ (q : Int) < (n6 : Int) := by omega
                obtain rfl : q = n6 := by omega
                have hno := from_none (k := k0) (fun j hj e he => HLT.out j (by rw [HN6.out] at hj; exact hj) e he)
                rw [HN9.out] at hno
                cases hno
          · have HN9 := Lib.hid q1
            have HB9 := Lib.hid b9
            clear q1 b9
            go_upto_region 20 with fail
            obtain ⟨b10, hb10⟩ : ∃ b, w9.heap.size = b := ⟨_, rfl⟩
            obtain ⟨w10, hw10, h101, h102⟩ : ∃ w7, w9.alloc (.cells #[.slice none 0 0, .int .i64 0] 42) = w7 ∧ w7.heap[b10]? = some (.cells #[.slice none 0 0, .int .i64 0] 42 (0, 0)) ∧ Below w9.heap.size w9 w7 := ⟨_, rfl, by rw [← hb10]; exact heap_alloc_new _ _, (Below.refl _ _).alloc (Nat.le_refl _) _⟩
            have HQ := Lib.hid h101
            have HR10 := Lib.hid (HR8.out.below (stepB HB9.out h102))
            have HF10 := Lib.hid (HF8.out.below (stepB HB9.out h102))
            have U10 := Lib.hid (U8.out.step (Frm.of_below (F := fun _ => False) (stepB HB9.out h102)) (fun _ _ h => h))
            rw [hw10, hb10]
            clear h101 h102 hw10 hb10 HB9
            go_wp2_with fail
            go_loopw [75] (fun i wx => ∃ q : Nat, q ≤ n6 ∧ i = .int .i64 q ∧ Below w10.heap.size w10 wx ∧ ∀ j, j < q → ∀ e, es[j]? = some e → klt e.1 k0) (fun i _ => n6 - (intOf i).toNat)
            case atStart => exact ⟨0, Nat.zero_le _, rfl, Below.refl _ _, fun j h => absurd h (by omega)⟩
            case round =>
              obtain ⟨q, hq, rfl, hbr, hlt⟩ := hrel
              have HBR := Lib.hid hbr
              have HLT := Lib.hid hlt
              clear hbr hlt
              by_cases c6 : q < n6
              · have c7 : (q : Int) < (n6 : Int) := by omega
                have hye : es[q]? = some (es[q]'(by rw [HN6.out]; exact c6)) := List.getElem?_eq_getElem _
                generalize es[q]'(by rw [HN6.out]; exact c6) = y at *
                have HY := Lib.hid hye
                obtain ⟨d0, d1, hky⟩ := (HR10.out.below HBR.out).at_ q y hye
                have ltg : g6 < wr.heap.size := (HR10.out.below HBR.out).lt
                obtain ⟨ay, by_, oy, cy, ey, -⟩ := id hky
                obtain ⟨yk, yn⟩ := y
                dsimp only at d1 hky ey hye
                rw [ey] at d0 hky
                have HKY := Lib.hid hky
                have hyl : yk.length ≤ maxLen := HKL.out (yk, yn) (List.mem_of_getElem? hye)
                have HO6 := Lib.hid (fun wx (hb : Below wr.heap.size wr wx) => key_ord (hky.step (Frm.of_below (F := fun _ => False) hb) (fun _ _ h => h)) (U10.out.step (Frm.of_below (F := fun _ => False) (stepB HBR.out hb)) (fun _ _ h => h)) hyl (by unfold maxLen; omega))
                obtain ⟨z, hz⟩ : ∃ z, ordB yk k0 = z := ⟨_, rfl⟩
                have HZ := Lib.hid hz
                rw [hz] at HO6
                clear hky ey hye hz
                by_cases z0 : 0 ≤ z
                · have hhit := from_here HLT.out HY.out (fun h => (klt_iff _ _).1 h (by rw [HZ.out]; exact z0))
                  rw [HN9.out] at hhit
                  cases hhit
                · go_wp2_with fail
                  refine (HO6.out _ ((Below.refl _ _).alloc (Nat.le_refl _) _)).mono ?_
                  rintro x w11 ⟨rfl, b11⟩
                  have HB11 := Lib.hid (stepB (stepB HBR.out ((Below.refl _ _).alloc (Nat.le_refl _) _)) b11)
                  clear b11
                  go_wp2_with fail
                  refine ⟨⟨q + 1, by omega, by simp, HB11.out, fun j hj e he => ?_⟩, by simp [intOf]; omega⟩
                  rcases Nat.lt_succ_iff_lt_or_eq.1 hj with h | rfl
                  · exact HLT.out j h e he
                  · rw [HY.out] at he
                    cases he
                    exact (klt_iff _ _).2 (by rw [HZ.out]; omega)
              · have c7 : ¬ (q : Int) < (n6 : Int) := by omega
                obtain rfl : q = n6 := by omega
                have hno := from_none (k := k0) (fun j hj e he => HLT.out j (by rw [HN6.out] at hj; exact hj) e he)
                rw [HN9.out] at hno
                have HBE := Lib.hid (HF10.out.below HBR.out).bel
                go_wp2_with fail
                go_ret
                exact ⟨rfl, B0.out.trans (HBE.out.mono B0.out.size)⟩
        · have c2 : (0 : Int) ≤ (j : Int) := by omega
          rw [show (((j + 1 : Nat) : Int) - 1) = (j : Int) by omega]
          have q : j < m := by omega
          have c3 : (j : Int) < (m : Int) := by omega
          have K1 := Lib.hid (K0.out.below hF.bel)
          have d0 := K1.out.cell j q
          have ltb := K1.out.lt (by omega)
          obtain rfl : a = some ⟨b, off, none⟩ := by
            rcases ha with g | g
            · omega
            · exact g
          have hky := K1.out.key j q
          have hkl := K1.out.len j q
          obtain ⟨ak, bk, ok, ck, ekv, -⟩ := id hky
          have HCP := Lib.hid (fun wx (hb : Below wr.heap.size wr wx) => copy_key (hky.step (Frm.of_below (F := fun _ => False) hb) (fun _ _ h => h)) (by omega))
          have HF3 := Lib.hid hF
          have HO2 := Lib.hid hO2
          clear hF ha hO2 K1 hky
          rw [ekv] at d0 HCP
          clear ekv
          have hs := Below.refl wr.heap.size wr
          go_wp2_with fail
          have hs1 := hs.drew
          go_region_with (first
            | (go_at_call 11; refine (HCP.out _ ?_).mono ?_; assumption; rintro x w3 ⟨v, rfl, hv, b2⟩; have hsn := stepB (show Below wr.heap.size wr _ by assumption) b2; have d2 := (hsn.cell ltb).trans d0; have HF4 := Lib.hid (HF3.out.below hsn); have HV := Lib.hid hv; clear hv)
            | (go_at_call 12; refine (tt_put HF4.out.swap (by omega) HV.out ((kf j).length : Int)).mono ?_; rintro x w4 ⟨⟨bb, rfl⟩, h3⟩; have HF5 := Lib.hid h3.swap; clear h3))
          all_goals
            go_wp2_with fail
            refine ⟨⟨j, _, ?_, rfl, HF5.out, HO2.out.put (fun j' => ?_), ?_⟩, ?_⟩
            · omega
            · omega
            · have hpl := ePut_le es2 (kf j) ((kf j).length : Int)
              omega
            · first
                | (simp [intOf]; done)
                | (simp [intOf]; omega)

set_option maxRecDepth 100000 in
theorem lifted (os : Os) (started : os.Started) (H : Type) (enc : TypeId × Value → H) (F : Stop.Interp) :
    ReturnsInHanded {} Try.checked os 6 .any ((Rows.OpenSpec.upto Rows.btreeOrdersSpec).pre6 enc Try.prog Try.f6 Rows.btreeOrdersUptoRow.domain false) (((Rows.OpenSpec.upto Rows.btreeOrdersSpec).at F).post enc Try.prog Try.f6 false true false false) := by
  refine returnsInHanded_of_cond (C := Try.checked) (s := Rows.OpenSpec.upto Rows.btreeOrdersSpec) (k := Rows.uptoSmall) rfl own started (by kernel_rfl) Try.func6
    (OpenSpec.witness (enc := enc) (C := Try.checked) (s := Rows.OpenSpec.upto Rows.btreeOrdersSpec) (k := Rows.uptoSmall) rfl false ⟨#[], #[.slice none 0 0, .slice none 0 0], []⟩ 8 (by kernel_rfl) (by kernel_rfl) (by kernel_rfl)
      (x := ([.nil, .nil], [], [])) (by kernel_rfl) rfl (by kernel_rfl)) ?_
  intro W base args ds gs before hval0 hW _ hk0 _
  have hval : ∀ (j : Nat) t v, Try.f6.params[j]? = some t → args[j]? = some v → Value.okWide Try.prog W .any base t v := hval0
  have hW' := hW
  obtain ⟨p, q, hA0, hV, rfl, hfz, hnd⟩ := hW
  have hA : DataW.TrodAll enc Try.prog W 0 (fun _ => true) true Try.f6.params.toList args.toList ds p := hA0
  rw [Try.params6] at hA hval
  obtain ⟨v0, vs0, d0, ds0, p0, q0, hargs, rfl, rfl, h0, r0⟩ := trodAll_cons hA
  obtain ⟨v1, vs1, d1, ds1, p1, q1, rfl, rfl, rfl, h1, r1⟩ := trodAll_cons r0
  obtain ⟨rfl, rfl, rfl⟩ := trodAll_nil r1
  obtain rfl : args = #[v0, v1] := by cases args; simp_all
  obtain ⟨rfl, rfl⟩ := trodVars_none hV
  have hk : Rows.uptoSmall H [d0, d1] = true := hk0
  have lt0 : ∀ x ∈ p0, x.block < W.heap.size := by obtain ⟨m, hm⟩ := h0; exact DataW.trod_lt m _ _ _ hm
  have lt1 : ∀ x ∈ p1, x.block < W.heap.size := by obtain ⟨m, hm⟩ := h1; exact DataW.trod_lt m _ _ _ hm
  refine (walk (enc := enc) base v0 d0 p0 v1 d1 p1 W (hval 0 52 v0 rfl rfl) h0 (hval 1 29 v1 rfl rfl) h1 hk).mono fun e W' ⟨he, bel⟩ => ?_
  subst he
  exact ⟨_, rfl, _, _, _, [], _, [], hW', trodAll_mk1 (shut_bool Try.underlying4 _), (trodAll_cons_mk (Below.trod laidOut (by kernel_rfl) (of_decide_eq_true (by kernel_rfl)) h0 bel lt0) (trodAll_cons_mk (Below.trod laidOut (by kernel_rfl) (of_decide_eq_true (by kernel_rfl)) h1 bel lt1) trodAll_mk0)), rfl, bel.frame _, fun h => by cases h⟩

theorem over : Rows.btreeOrdersUptoRow.holds Try.pinned (Rows.OpenSpec.upto Rows.btreeOrdersSpec) :=
  OpenClaim.holds_of_cond 6 Try.f6 rfl rfl rfl rfl rfl rfl rfl ⟨rfl, rfl, rfl, rfl, rfl⟩ rfl rfl rfl rfl rfl (by kernel_rfl) Try.func6 (by kernel_rfl)
    (of_decide_eq_true (by kernel_rfl)) (by unfold Func.isWrapper; first | (rw [if_pos (by decide +kernel)]; kernel_rfl) | (rw [if_neg (by decide +kernel)]; exact ⟨rfl, rfl⟩))
    (fun os started H enc _ F => lifted os started H enc F)

theorem proved : Rows.BtreeOrdersUptoSaid :=
  over
end Go.Proofs.Ytnhppciiampahaa.btreeOrders
