/-
  BtreeWalks answers true at any list of keys that stay and any script of calls, of a bulk of at most 1048576: a cursor that goes through the tree meets, in order and once, every entry that stays.
  Conditions: none but the row's own.
-/
import Derived.Test.YtncganfjbalkgaaTr28
import Derived.Test.YtncganfjbalkgaaRows
import Derived.WalkKit
import Derived.ProofKit
import Derived.OpenShut
import Derived.ShutString
import Derived.ChangeOld
import Derived.Below
import Derived.Carry
import Derived.JoinedCond
namespace Go.Proofs.Ytncganfjbalkgaa.btreeWalks
open Go.ChangeShapes Go.WideShapes Go.ChangeAt Go.RowKit
open Go.Joins
set_option linter.unusedVariables false

theorem own : ownKnob Try.prog.godebug = none := by kernel_rfl
theorem laidOut : laidOutB Try.prog = true := by kernel_rfl

set_option maxRecDepth 100000 in

set_option maxHeartbeats 4000000 in
theorem walk {H : Type} {enc : TypeId × Value → H} (base : Nat) (v0 : Value) (d0 : DataW H) (p0 : List MemPlace) (v1 : Value) (d1 : DataW H) (p1 : List MemPlace) (W : World)
    (o0 : Value.okWide Try.prog W .any base 52 v0) (h0 : DataW.Trod enc Try.prog W 0 (fun _ => true) true 52 v0 d0 p0)
    (o1 : Value.okWide Try.prog W .any base 22 v1) (h1 : DataW.Trod enc Try.prog W 0 (fun _ => true) true 22 v1 d1 p1)
    (hk : Rows.uptoSmall H [d0, d1] = true) :
    Calls Try.prog 5 #[v0, v1] W fun e w' => e = .returned (.bool true) ∧ Below W.heap.size W w' := by
  obtain ⟨a, m, cap, b, off, kf, kv, rfl, hm, ha, hK⟩ := open_keys o0 h0 (up_arg hk (by simp))
  obtain ⟨a', n, cap', b', off', kd, idf, kf', kv', rfl, hn, ha', hO⟩ := open_ops o1 h1 (up_arg hk (by simp))
  have HS := Lib.hid speaks_any
  clear o0 h0 o1 h1 hk
  go_enter Try.func5, Try.ntmps5
  go_wp2_with fail
  refine (HS.out _).mono ?_
  rintro x w0 ⟨rfl, b0⟩
  have K0 := Lib.hid (hK.below b0)
  have O0 := Lib.hid (hO.below b0)
  have B0 := Lib.hid b0
  clear hK hO b0
  go_wp2_with fail
  refine (tc_new w0).mono ?_
  rintro x w1 ⟨t, rfl, hT, -⟩
  have HB1 := Lib.hid (bs_made hT)
  clear hT
  go_upto_region 8 with fail
  generalize w1.alloc (.cells #[] 42) = w2 at *
  generalize w1.heap.size = gf at *
  go_wp2_with fail
  go_loopw [29, 6] (fun i fv wx => ∃ (k : Nat) (es : List Ent), k ≤ m ∧ i = .int .i64 k ∧ BS w0 wx t es fv es ∧ Srt es ∧ (∀ e ∈ es, 0 < e.2 ∧ e.1.length ≤ 1048576) ∧ es.length ≤ k) (fun i _ _ => m - (intOf i).toNat)
  case atStart => exact ⟨0, [], Nat.zero_le _, rfl, HB1.out, List.Pairwise.nil, fun e h => by simp at h, Nat.le_refl _⟩
  case round =>
    obtain ⟨k, es, hk1, rfl, hF, hsr, hes, hln⟩ := hrel
    by_cases q : k < m
    · have c1 : (k : Int) < (m : Int) := by omega
      have K1 := Lib.hid (K0.out.below hF.bel)
      have d0 := K1.out.cell k q
      obtain rfl : a = some ⟨b, off, none⟩ := by
        rcases ha with g | g
        · omega
        · exact g
      have hky := K1.out.key k q
      have hkl := K1.out.len k q
      have HKY := Lib.hid hky
      have HCP := Lib.hid (copy_key hky (by omega))
      obtain ⟨ak, bk, ok, ck, ekv, -⟩ := _root_.id hky
      have HF := Lib.hid hF
      have HES := Lib.hid hes
      have HSR := Lib.hid hsr
      clear hF ha ha' hes hsr K1 hky
      rw [ekv] at d0 HCP HKY
      have EKV := Lib.hid ekv
      clear ekv
      go_wp2_with fail
      refine HCP.out.mono ?_
      rintro x w3 ⟨v, rfl, hv, b2⟩
      have HF2 := Lib.hid (HF.out.below b2)
      have HK2 := Lib.hid (HKY.out.step (Frm.of_below (F := fun _ => False) b2) (fun _ _ h => h))
      have HV := Lib.hid hv
      clear hv b2 d0
      go_wp2_with fail
      refine (bs_put HF2.out (by omega) HV.out ((k : Int) + 1)).mono ?_
      rintro x w4 ⟨rfl, h3⟩
      have HF3 := Lib.hid h3
      clear h3
      have HK3 := Lib.hid (K0.out.below HF3.out.bel)
      cases hb : (ePl es (kf k)).2 with
      | true =>
        have he : ePut es (kf k) ((k : Int) + 1) = es := by unfold ePut; rw [if_pos hb]
        rw [he] at HF3
        go_wp2_with fail
        exact ⟨⟨k + 1, es, by omega, by simp, HF3.out, HSR.out, HES.out, by omega⟩, by simp [intOf]; omega⟩
      | false =>
        have hky3 := HK3.out.key k q
        rw [EKV.out] at hky3
        have HPF := Lib.hid (bs_fix HF3.out (by omega) (fun e he => by have := (HES.out e he).2; unfold maxLen; omega) hky3 (by omega) ((k : Int) + 1))
        have HE2 := Lib.hid (show ∀ e ∈ ePut es (kf k) ((k : Int) + 1), 0 < e.2 ∧ e.1.length ≤ 1048576 from fun e he => by
          rcases ePut_mem he with h | rfl
          · exact HES.out e h
          · exact ⟨by show (0 : Int) < (k : Int) + 1; omega, by show (kf k).length ≤ 1048576; omega⟩)
        have hpl := ePut_le es (kf k) ((k : Int) + 1)
        clear hky3
        go_wp2_with fail
        refine HPF.out.mono ?_
        rintro x w5 ⟨v5, b5, rfl, h5⟩
        have HF5 := Lib.hid h5
        clear h5
        go_wp2_with fail
        exact ⟨⟨k + 1, _, by omega, by simp, HF5.out, ePut_srt HSR.out, HE2.out, by omega⟩, by simp [intOf]; omega⟩
    · have c1 : ¬ (k : Int) < (m : Int) := by omega
      obtain rfl : m = k := by omega
      have HF := Lib.hid hF
      have HES := Lib.hid hes
      have HSR := Lib.hid hsr
      clear hF hes hsr
      go_upto_region 14 with fail
      obtain ⟨gm, hgm⟩ : ∃ g, wr.heap.size = g := ⟨_, rfl⟩
      obtain ⟨wB, hwB⟩ : ∃ w, wr.alloc (.cells #[] 42) = w := ⟨_, rfl⟩
      rw [hwB, hgm]
      have HGM := Lib.hid hgm
      have HWB := Lib.hid hwB
      have HFB := Lib.hid (HF.out.below (show Below wr.heap.size wr wB by rw [← hwB]; exact (Below.refl _ _).alloc (Nat.le_refl _) _))
      clear hgm hwB
      obtain ⟨R1, L1, hTB, -⟩ := _root_.id HFB.out
      obtain ⟨F1, hX1, -⟩ := _root_.id hTB
      have HSK := Lib.hid (tseek_any _ wB F1 t es hX1 (fun _ => True) _ [] (key_nil wB))
      clear hTB hX1
      go_wp2_with fail
      refine HSK.out.mono ?_
      rintro x wC ⟨c, rfl, hc1, hbC, hc2⟩
      obtain ⟨st, hst⟩ : ∃ st, seekSt es [] = st := ⟨_, rfl⟩
      rw [hst] at hc2
      have HST := Lib.hid hst
      have HBC := Lib.hid hbC
      have HC1 := Lib.hid hc1
      have HC2 := Lib.hid hc2
      obtain ⟨R2, L2, hTC, -⟩ := HFB.out.below hbC
      obtain ⟨F2, hX2, -⟩ := hTC
      have HEN := Lib.hid (centry_any _ wC F2 t es hX2 c st hc2)
      clear hst hbC hc1 hc2 hX2
      go_wp2_with fail
      refine HEN.out.mono ?_
      rintro x wD hED
      obtain ⟨be, hbe⟩ : ∃ be, wD.heap.size = be := ⟨_, rfl⟩
      obtain ⟨v, id0, ok, rfl, hok, hin, ⟨av, mv, cv, rfl⟩, hWD, hgo⟩ := wk_start (be := be) HF.out HSR.out HST.out.symm HGM.out HWB.out HBC.out HC1.out HC2.out hED
      obtain ⟨wE, hwE⟩ : ∃ w, wD.alloc (.cells #[.slice av mv cv, .int .i64 id0] 42) = w := ⟨_, rfl⟩
      obtain ⟨wF, hwF⟩ : ∃ w, wE.alloc (.cells #[] 5) = w := ⟨_, rfl⟩
      obtain ⟨lb, hlb⟩ : ∃ lb, wE.heap.size = lb := ⟨_, rfl⟩
      have HW0 := Lib.hid ((hgo wE (.slice (some ⟨lb, 0, none⟩) 0 0) [] hwE.symm hbe).below (show Below wE.heap.size wE wF by rw [← hwF]; exact (Below.refl _ _).alloc (Nat.le_refl _) _))
      have HIN := Lib.hid hin
      have HWL := Lib.hid (show Wl es es [] st (m + min 0 n) by rw [← HST.out]; exact (Wl.start HSR.out (fun e he => (HES.out e he).1)).more (by omega))
      clear hgo hin hED hWD
      go_upto_region 20 with fail
      subst hok
      clear hwE hbe hwF hlb HF HFB HSK HEN HC2 HC1 HBC HWB
      go_wp2_with fail
      go_loopw [9, 12, 13, 14] (fun mv ok lv s wx => ∃ (i : Nat) (es2 : List Ent) (st : Option (List Nat)) (mt : List Ent) (ev : Value) (id : Int) (lk : List Nat), ok = .bool st.isSome ∧ s = .int .i64 i ∧ (i ≤ m + n ∧ ∀ k, st = some k → i = mt.length) ∧ Wk w0 wx t c be es2 st st u6 es mv mt ev id lv lk ∧ Wl es es2 mt st (m + min i n) ∧ (∀ k, st = some k → (k, id) ∈ es2) ∧ (∀ e ∈ es2, e.1.length ≤ 1048576) ∧ es2.length ≤ m + min i n ∧ (mt ≠ [] → ∃ z, (lk, z) ∈ mt) ∧ lk.length ≤ 1048576) (fun mv _ _ s _ => (m + n + 1 - slen mv) + (n - (intOf s).toNat))
      case atStart => exact ⟨0, es, st, [], _, id0, [], rfl, rfl, ⟨by omega, fun _ _ => rfl⟩, HW0.out, HWL.out, HIN.out, fun e he => (HES.out e he).2, by omega, fun h => absurd rfl h, by simp⟩
      case round =>
        clear HWL HW0 HIN HST
        obtain ⟨i, es2, st, mt, ev, id, lk, rfl, rfl, hib, hW2, hL, hin2, hes2, hln2, hlk, hll⟩ := hrel
        obtain ⟨gq, capq, rfl⟩ := hW2.met
        cases st with
        | some k =>
          obtain ⟨av2, mv2, ov2, cv2, rfl, -⟩ := hW2.key
          have hmt := hL.here (hin2 k rfl)
          have c3 : ¬ ((m : Int) + (n : Int) < (mt.length : Int)) := by omega
          have dB0 : wr.cell? ⟨be, 0, none⟩ = some (.slice av2 k.length cv2) := by rw [cell_of_block hW2.box]; rfl
          have dB1 : wr.cell? ⟨be, 1, none⟩ = some (.int .i64 id) := by rw [cell_of_block hW2.box]; rfl
          have ltb : be < wr.heap.size := (Array.getElem?_eq_some_iff.1 hW2.box).1
          have hkl : k.length ≤ 1048576 := hes2 _ (hin2 k rfl)
          have HKL := Lib.hid hkl
          have HL := Lib.hid hL
          have HIN := Lib.hid (hin2 k rfl)
          have HES2 := Lib.hid hes2
          have HLN := Lib.hid hln2
          have HIB := Lib.hid hib
          have HMT := Lib.hid hmt
          rcases Classical.em ((0 : Int) < (mt.length : Int)) with c4 | c4
          focus
            have hne : mt ≠ [] := by rintro rfl; simp at c4
            obtain ⟨z, hz⟩ := hlk hne
            have hzl := hL.mlt k rfl _ hz
            have HORD := Lib.hid (key_ord (hW2.last hne) hW2.key (by unfold maxLen; omega) (by unfold maxLen; omega))
            obtain ⟨y, hy⟩ : ∃ y, ordB lk k = y := ⟨_, rfl⟩
            have hy0 : ¬ (0 : Int) ≤ y := by rw [← hy]; have : ordB lk k < 0 := hzl; omega
            rw [hy] at HORD
            have HW := Lib.hid hW2
            clear hW2 hL hin2 hes2 hln2 hlk hz hzl hy hib hmt hkl
            go_upto_region 25 with (first | (go_at_call 28; refine HORD.out.mono ?_; rintro x wr ⟨rfl, b3⟩; have HW := Lib.hid (HW.out.below b3); clear b3))
          rotate_right
          focus
            have HW := Lib.hid hW2
            clear hW2 hL hin2 hes2 hln2 hlk hib hmt hkl
            go_upto_region 25 with fail
          all_goals
            have hWa := HW.out.below ((Below.refl wr.heap.size wr).alloc (Nat.le_refl _) (.cells #[.slice av2 k.length cv2, .int .i64 id] 42))
            have hsz := hWa.bel.size
            obtain ⟨mL, hOW, hml, h1c, hpush⟩ := hWa.own
            have HPU := Lib.hid hpush
            have HOW := Lib.hid hOW
            have HML := Lib.hid hml
            have HSZ := Lib.hid hsz
            have f0 : wr.cell? ⟨be, 0, none⟩ = some (.slice av2 k.length cv2) := by rw [cell_of_block HW.out.box]; rfl
            have f1 : wr.cell? ⟨be, 1, none⟩ = some (.int .i64 id) := by rw [cell_of_block HW.out.box]; rfl
            have ltb' : be < wr.heap.size := (Array.getElem?_eq_some_iff.1 HW.out.box).1
            clear hWa hpush hOW hml h1c hsz dB0 dB1 ltb
            go_upto_region 26 with (first | (at_builtin; refine wp_pushE2 rfl _ _ rfl w0.heap.size _ mL rfl HOW.out HSZ.out ⟨wr.heap.size, 0, none⟩ 1 (.slice av2 k.length cv2, id) rfl (newsE wr _ _) rfl (by have := HML.out; have := HMT.out; omega) ?_; intro v1 w3 g1 g2 g3; have HW3 := Lib.hid (HPU.out w3 v1 g1 g2 g3); clear g1 g2 g3))
            have f2 : w3.cell? ⟨be, 0, none⟩ = some (.slice av2 k.length cv2) := by rw [cell_of_block HW3.out.box]; rfl
            have HCP := Lib.hid (wk_copy HW3.out (by have := HKL.out; omega))
            clear f0 f1 ltb'
            go_wp2_with fail
            refine HCP.out.mono ?_
            rintro x w4 ⟨v4, rfl, h4⟩
            obtain ⟨gv, cpv, hgv⟩ := h4.met
            rw [show (mt ++ [(k, id)]).length = mt.length + 1 by simp] at hgv
            subst hgv
            have HW4 := Lib.hid h4
            clear h4 f2
            rcases Nat.lt_or_ge i n with ci | ci
            focus
              have cI : (i : Int) < (n : Int) := by omega
              have O4 := Lib.hid (O0.out.below HW4.out.bel)
              have d0 := O4.out.c0 i ci
              have d1 := O4.out.c1 i ci
              have d2 := O4.out.c2 i ci
              have ltb2 := O4.out.lt (by omega)
              obtain rfl : a' = some ⟨b', off', none⟩ := by
                rcases ha' with g | g
                · omega
                · exact g
              have hky := O4.out.key i ci
              have hky0 := O4.out.len i ci
              obtain ⟨ak, bk, ok, ck, ekv, -⟩ := _root_.id hky
              rw [ekv] at d1 hky
              have HKY := Lib.hid hky
              have HKL0 := Lib.hid hky0
              clear hky ekv ha' hky0
              generalize kd i = pk at *
              generalize idf i = pz at *
              obtain ⟨b5, hb5⟩ : ∃ b5, w4.heap.size = b5 := ⟨_, rfl⟩
              obtain ⟨w5, hw5⟩ : ∃ w5, w4.alloc (.cells #[.int .i64 pk, .slice ak (kf' i).length ck, .int .i64 pz] 34) = w5 := ⟨_, rfl⟩
              have hb45 : Below w4.heap.size w4 w5 := by rw [← hw5]; exact (Below.refl _ _).alloc (Nat.le_refl _) _
              have hbx5 : w5.heap[b5]? = some (.cells #[.int .i64 pk, .slice ak (kf' i).length ck, .int .i64 pz] 34 (0, 0)) := by rw [← hw5, ← hb5]; exact heap_alloc_new _ _
              have HBX5 := Lib.hid hbx5
              have HW5 := Lib.hid (HW4.out.below hb45)
              have HK5 := Lib.hid (HKY.out.step (Frm.of_below (F := fun _ => False) hb45) (fun _ _ h => h))
              have HPL := Lib.hid (bs_place HW5.out.bs (by unfold maxLen; omega) (fun e he => by have := (HES.out e he).2; unfold maxLen; omega) HK5.out (by have := HKL0.out; unfold maxLen; omega))
              have e1 : w5.cell? ⟨b5, 1, none⟩ = some (.slice ak (kf' i).length ck) := by rw [cell_of_block hbx5]; rfl
              clear hb45 hbx5
              go_upto_region 29 with fail
              go_wp2_with fail
              refine HPL.out.mono ?_
              rintro x w6 ⟨rfl, b6⟩
              have HW6 := Lib.hid (HW5.out.below b6)
              have HK6 := Lib.hid (HK5.out.step (Frm.of_below (F := fun _ => False) b6) (fun _ _ h => h))
              have hbx6 := (b6.block _ (Array.getElem?_eq_some_iff.1 HBX5.out).1).trans HBX5.out
              have e0 : w6.cell? ⟨b5, 0, none⟩ = some (.int .i64 pk) := by rw [cell_of_block hbx6]; rfl
              have e2 : w6.cell? ⟨b5, 1, none⟩ = some (.slice ak (kf' i).length ck) := by rw [cell_of_block hbx6]; rfl
              have ltb6 : b5 < w6.heap.size := (Array.getElem?_eq_some_iff.1 hbx6).1
              have HCP6 := Lib.hid (copy_key HK6.out (by have := HKL0.out; omega))
              obtain ⟨d7, hd7⟩ : ∃ d, 1 = d := ⟨_, rfl⟩
              have HN7 : Hid (m + min i n + d7 ≤ m + min (i + 1) n) := Lib.hid (by omega)
              have HD7 := Lib.hid hd7
              clear b6 hbx6 e1 d0 d1 d2 ltb2 hw5 hb5 hd7
              cases hpar : (bits BinOp.and IntKind.i64 pk 1 == 0)
              focus
                cases hth : (ePl es (kf' i)).2
                focus
                  go_wp2_with fail
                  refine HCP6.out.mono ?_
                  rintro x w7 ⟨v7, rfl, hv7, b7⟩
                  have HPT := Lib.hid (wk_drop (HW6.out.below b7) (by have := HLN.out; omega) hv7)
                  clear b7 hv7
                  go_wp2_with fail
                  refine HPT.out.mono ?_
                  rintro x w7 ⟨⟨bb, rfl⟩, h7⟩
                  have HK7 := Lib.hid (show ∀ e ∈ eDel es2 (kf' i), e.1.length ≤ 1048576 from fun e he => HES2.out e (eDel_mem he))
                  have ht7 : Turn es es2 (eDel es2 (kf' i)) 1 := .drop _ hth
                  generalize eDel es2 (kf' i) = es7 at *
                  have HW7 := Lib.hid h7
                  rw [HD7.out] at ht7
                  have HT7 := Lib.hid ht7
                  clear h7 ht7 HPT HCP6
                  go_upto_region 34 with fail
                rotate_right
                focus
                  have HT7 : Hid (Turn es es2 es2 d7) := Lib.hid (.none _)
                  have HK7 := HES2
                  go_upto_region 34 with fail
                  obtain ⟨es7, he7⟩ : ∃ e, es2 = e := ⟨_, rfl⟩
                  rw [he7] at HW6 HK7
                  rw [show Turn es es2 es2 d7 = Turn es es2 es7 d7 by rw [he7]] at HT7
                  have HW7 := HW6
                  clear he7
                  generalize w6 = w7 at *
              rotate_right
              focus
                go_wp2_with fail
                refine HCP6.out.mono ?_
                rintro x w7 ⟨v7, rfl, hv7, b7⟩
                have HPT := Lib.hid (wk_put (HW6.out.below b7) (by have := HLN.out; omega) hv7 (-1))
                clear b7 hv7
                go_wp2_with fail
                refine HPT.out.mono ?_
                rintro x w7 ⟨⟨bb, rfl⟩, h7⟩
                have HK7 := Lib.hid (show ∀ e ∈ ePut es2 (kf' i) (-1), e.1.length ≤ 1048576 from fun e he => by
                  rcases ePut_mem he with h | rfl
                  · exact HES2.out e h
                  · exact HKL0.out)
                have ht7 : Turn es es2 (ePut es2 (kf' i) (-1)) 1 := .put _
                generalize ePut es2 (kf' i) (-1) = es7 at *
                have HW7 := Lib.hid h7
                rw [HD7.out] at ht7
                have HT7 := Lib.hid ht7
                clear h7 ht7 HPT HCP6
                go_upto_region 34 with fail
            rotate_right
            focus
              have cI : ¬ (i : Int) < (n : Int) := by omega
              have HN7 : Hid (m + min i n + 0 ≤ m + min (i + 1) n) := Lib.hid (by omega)
              have HT7 : Hid (Turn es es2 es2 0) := Lib.hid (.none _)
              have HK7 := HES2
              go_upto_region 34 with fail
              obtain ⟨es7, he7⟩ : ∃ e, es2 = e := ⟨_, rfl⟩
              obtain ⟨d7, hd7⟩ : ∃ d, 0 = d := ⟨_, rfl⟩
              rw [he7] at HW4 HK7
              rw [show Turn es es2 es2 0 = Turn es es2 es7 d7 by rw [he7, hd7]] at HT7
              rw [hd7] at HN7
              have HW7 := HW4
              clear he7 hd7
              generalize w4 = w7 at *
            all_goals as_aux_lemma =>
              obtain ⟨st', hst'⟩ : ∃ s, seekSt es7 (k ++ [0]) = s := ⟨_, rfl⟩
              have hwl := (HL.out.goes HT7.out HIN.out).more HN7.out
              rw [hst'] at hwl
              have HWL8 := Lib.hid hwl
              have HNX := Lib.hid (wk_next HW7.out (by have := HKL.out; omega) hst')
              clear hwl hst'
              go_wp2_with fail
              refine HNX.out.mono ?_
              rintro x w8 ⟨⟨bb, rfl⟩, h8⟩
              have HEN := Lib.hid (wk_entry h8 HWL8.out.se HWL8.out.at_)
              clear h8 HNX
              go_wp2_with fail
              refine HEN.out.mono ?_
              rintro x w9 ⟨v9, n9, b9, rfl, hb9, hin9, ⟨a9, m9, c9, rfl⟩, hbl9, hW9, hgo9⟩
              have hbx := hW9.box
              obtain ⟨hp1, hp2⟩ := box_puts (c := .slice a9 m9 c9) (d := .int .i64 n9) hbx
              have HGO := Lib.hid (hgo9 _ hp1 hp2)
              have HIN9 := Lib.hid hin9
              have y0 : w9.cell? ⟨be, 0, none⟩ = some (.slice av2 k.length cv2) := by rw [cell_of_block hbx]; rfl
              have y1 : w9.cell? ⟨be, 1, none⟩ = some (.int .i64 id) := by rw [cell_of_block hbx]; rfl
              have z0 := unfrozen_of_block hbx 0
              have z1 := unfrozen_of_block hbx 1
              have ltbe : be < w9.heap.size := (Array.getElem?_eq_some_iff.1 hbx).1
              subst hb9
              clear hp1 hp2 hgo9 hW9 hin9 hbl9 HEN hbx
              have hi9 : (i : Int) < 9223372036854775807 := by have := HIB.out.1; omega
              go_wp2_with fail
              refine ⟨⟨i + 1, es7, st', mt ++ [(k, id)], _, n9, k, rfl, by simp, ?_, HGO.out, HWL8.out, HIN9.out, HK7.out, ?_, fun _ => ⟨id, by simp⟩, HKL.out⟩, ?_⟩
              · have := HIB.out
                have h2 := HMT.out
                have h3 := this.2 k rfl
                exact ⟨by omega, fun _ _ => by simp; omega⟩
              · have := HT7.out.len
                have h2 := HN7.out
                have h3 := HLN.out
                omega
              · have h2 := HMT.out
                simp [intOf, slen]
                omega

        | none =>
          have hmt := hL.cnt
          have c3 : ¬ ((m : Int) + (n : Int) < (mt.length : Int)) := by omega
          have HL := Lib.hid hL
          have HES2 := Lib.hid hes2
          have HLN := Lib.hid hln2
          have HIB := Lib.hid hib
          have HW4 := Lib.hid hW2
          have HLK := Lib.hid hlk
          have HLL := Lib.hid hll
          clear hW2 hL hin2 hes2 hln2 hlk hib hmt hll
          rcases Nat.lt_or_ge i n with ci | ci
          focus
            have cI : (i : Int) < (n : Int) := by omega
            have O4 := Lib.hid (O0.out.below HW4.out.bel)
            have d0 := O4.out.c0 i ci
            have d1 := O4.out.c1 i ci
            have d2 := O4.out.c2 i ci
            have ltb2 := O4.out.lt (by omega)
            obtain rfl : a' = some ⟨b', off', none⟩ := by
              rcases ha' with g | g
              · omega
              · exact g
            have hky := O4.out.key i ci
            have hky0 := O4.out.len i ci
            obtain ⟨ak, bk, ok, ck, ekv, -⟩ := _root_.id hky
            rw [ekv] at d1 hky
            have HKY := Lib.hid hky
            have HKL0 := Lib.hid hky0
            clear hky ekv ha' hky0
            generalize kd i = pk at *
            generalize idf i = pz at *
            obtain ⟨b5, hb5⟩ : ∃ b5, wr.heap.size = b5 := ⟨_, rfl⟩
            obtain ⟨w5, hw5⟩ : ∃ w5, wr.alloc (.cells #[.int .i64 pk, .slice ak (kf' i).length ck, .int .i64 pz] 34) = w5 := ⟨_, rfl⟩
            have hb45 : Below wr.heap.size wr w5 := by rw [← hw5]; exact (Below.refl _ _).alloc (Nat.le_refl _) _
            have hbx5 : w5.heap[b5]? = some (.cells #[.int .i64 pk, .slice ak (kf' i).length ck, .int .i64 pz] 34 (0, 0)) := by rw [← hw5, ← hb5]; exact heap_alloc_new _ _
            have HBX5 := Lib.hid hbx5
            have HW5 := Lib.hid (HW4.out.below hb45)
            have HK5 := Lib.hid (HKY.out.step (Frm.of_below (F := fun _ => False) hb45) (fun _ _ h => h))
            have HPL := Lib.hid (bs_place HW5.out.bs (by unfold maxLen; omega) (fun e he => by have := (HES.out e he).2; unfold maxLen; omega) HK5.out (by have := HKL0.out; unfold maxLen; omega))
            have e1 : w5.cell? ⟨b5, 1, none⟩ = some (.slice ak (kf' i).length ck) := by rw [cell_of_block hbx5]; rfl
            clear hb45 hbx5
            go_upto_region 29 with fail
            go_wp2_with fail
            refine HPL.out.mono ?_
            rintro x w6 ⟨rfl, b6⟩
            have HW6 := Lib.hid (HW5.out.below b6)
            have HK6 := Lib.hid (HK5.out.step (Frm.of_below (F := fun _ => False) b6) (fun _ _ h => h))
            have hbx6 := (b6.block _ (Array.getElem?_eq_some_iff.1 HBX5.out).1).trans HBX5.out
            have e0 : w6.cell? ⟨b5, 0, none⟩ = some (.int .i64 pk) := by rw [cell_of_block hbx6]; rfl
            have e2 : w6.cell? ⟨b5, 1, none⟩ = some (.slice ak (kf' i).length ck) := by rw [cell_of_block hbx6]; rfl
            have ltb6 : b5 < w6.heap.size := (Array.getElem?_eq_some_iff.1 hbx6).1
            have HCP6 := Lib.hid (copy_key HK6.out (by have := HKL0.out; omega))
            obtain ⟨d7, hd7⟩ : ∃ d, 1 = d := ⟨_, rfl⟩
            have HN7 : Hid (m + min i n + d7 ≤ m + min (i + 1) n) := Lib.hid (by omega)
            have HD7 := Lib.hid hd7
            clear b6 hbx6 e1 d0 d1 d2 ltb2 hw5 hb5 hd7
            cases hpar : (bits BinOp.and IntKind.i64 pk 1 == 0)
            focus
              cases hth : (ePl es (kf' i)).2
              focus
                go_wp2_with fail
                refine HCP6.out.mono ?_
                rintro x w7 ⟨v7, rfl, hv7, b7⟩
                have HPT := Lib.hid (wk_drop (HW6.out.below b7) (by have := HLN.out; omega) hv7)
                clear b7 hv7
                go_wp2_with fail
                refine HPT.out.mono ?_
                rintro x w7 ⟨⟨bb, rfl⟩, h7⟩
                have HK7 := Lib.hid (show ∀ e ∈ eDel es2 (kf' i), e.1.length ≤ 1048576 from fun e he => HES2.out e (eDel_mem he))
                have ht7 : Turn es es2 (eDel es2 (kf' i)) 1 := .drop _ hth
                generalize eDel es2 (kf' i) = es7 at *
                have HW7 := Lib.hid h7
                rw [HD7.out] at ht7
                have HT7 := Lib.hid ht7
                clear h7 ht7 HPT HCP6
                go_upto_region 34 with fail
              rotate_right
              focus
                have HT7 : Hid (Turn es es2 es2 d7) := Lib.hid (.none _)
                have HK7 := HES2
                go_upto_region 34 with fail
                obtain ⟨es7, he7⟩ : ∃ e, es2 = e := ⟨_, rfl⟩
                rw [he7] at HW6 HK7
                rw [show Turn es es2 es2 d7 = Turn es es2 es7 d7 by rw [he7]] at HT7
                have HW7 := HW6
                clear he7
                generalize w6 = w7 at *
            rotate_right
            focus
              go_wp2_with fail
              refine HCP6.out.mono ?_
              rintro x w7 ⟨v7, rfl, hv7, b7⟩
              have HPT := Lib.hid (wk_put (HW6.out.below b7) (by have := HLN.out; omega) hv7 (-1))
              clear b7 hv7
              go_wp2_with fail
              refine HPT.out.mono ?_
              rintro x w7 ⟨⟨bb, rfl⟩, h7⟩
              have HK7 := Lib.hid (show ∀ e ∈ ePut es2 (kf' i) (-1), e.1.length ≤ 1048576 from fun e he => by
                rcases ePut_mem he with h | rfl
                · exact HES2.out e h
                · exact HKL0.out)
              have ht7 : Turn es es2 (ePut es2 (kf' i) (-1)) 1 := .put _
              generalize ePut es2 (kf' i) (-1) = es7 at *
              have HW7 := Lib.hid h7
              rw [HD7.out] at ht7
              have HT7 := Lib.hid ht7
              clear h7 ht7 HPT HCP6
              go_upto_region 34 with fail
          rotate_right
          focus
            have cI : ¬ (i : Int) < (n : Int) := by omega
            have HN7 : Hid (m + min i n + 0 ≤ m + min (i + 1) n) := Lib.hid (by omega)
            have HT7 : Hid (Turn es es2 es2 0) := Lib.hid (.none _)
            have HK7 := HES2
            as_aux_lemma =>
              go_wp2_with fail
              have hdone := HL.out.done
              obtain ⟨gz, capz, mfz, ez, hrz⟩ := HW4.out.at
              obtain ⟨gy, capy, mfy, ey, hry⟩ := HW4.out.bs.at
              injection ez with ez1 _ ez3
              injection ez1 with ez1
              injection ez1 with ez1
              subst ez1 ey
              clear ez3
              have HRZ := Lib.hid hrz
              have HRY := Lib.hid hry
              have HDN := Lib.hid hdone
              have HBL := Lib.hid HW4.out.bel
              obtain ⟨nz, hnz⟩ : ∃ q, mt.length = q := ⟨_, rfl⟩
              obtain ⟨ny, hny⟩ : ∃ q, es.length = q := ⟨_, rfl⟩
              rw [hnz] at HRZ
              have hnz9 : nz ≤ 2097152 := by omega
              rw [hny] at HRY
              have HNZ := Lib.hid hnz
              have HNY := Lib.hid hny
              clear hdone hrz hry
              go_upto_region 39 with fail
              try rw [hny]
              clear hny hnz
              go_wp2_with fail
              go_loopw [141, 18] (fun i f wx => ∃ q : Nat, q ≤ nz ∧ i = .int .i64 q ∧ f = .int .i64 ((((mt.take q).filter (fun e => decide (0 < e.2))).length : Nat) : Int) ∧ Below wr.heap.size wr wx) (fun i _ _ => nz - (intOf i).toNat)
              case atStart => exact ⟨0, Nat.zero_le _, rfl, by simp, Below.refl _ _⟩
              case round =>
                obtain ⟨q, hq, rfl, rfl, hbr⟩ := hrel
                have HBR := Lib.hid hbr
                clear hbr
                by_cases c6 : q < nz
                · have c7 : (q : Int) < (nz : Int) := by omega
                  have hx : mt[q]? = some (mt[q]'(by rw [HNZ.out]; exact c6)) := List.getElem?_eq_getElem _
                  generalize mt[q]'(by rw [HNZ.out]; exact c6) = y at *
                  have HX := Lib.hid hx
                  obtain ⟨d0, d1, hky⟩ := (HRZ.out.below HBR.out).at_ q y hx
                  have ltz := (HRZ.out.below HBR.out).lt
                  obtain ⟨ay, by_, oy, cy, ey, -⟩ := _root_.id hky
                  obtain ⟨yk, yn⟩ := y
                  dsimp only at d1 hky ey hx
                  rw [ey] at d0 hky
                  have hnx := found_next (p := fun e => decide (0 < e.2)) hx
                  obtain ⟨cnt, hcnt⟩ : ∃ q9, ((mt.take q).filter (fun e => decide (0 < e.2))).length = q9 := ⟨_, rfl⟩
                  rw [hcnt] at hnx ⊢
                  have hcq : cnt ≤ q := by rw [← hcnt]; exact Nat.le_trans (List.length_filter_le _ _) (by rw [List.length_take]; omega)
                  have HKY := Lib.hid hky
                  have HNX := Lib.hid hnx
                  clear ey hky hnx
                  by_cases z0 : 0 < yn
                  · have hfa := found_at (p := fun e => decide (0 < e.2)) hx (by simpa using z0)
                    rw [hcnt, HDN.out] at hfa
                    have hcl : cnt < ny := by rw [← HNY.out]; exact (List.getElem?_eq_some_iff.1 hfa).1
                    have hci : (cnt : Int) < (ny : Int) := by omega
                    clear hcnt hx
                    obtain ⟨wq, hwq⟩ : ∃ w, wr.alloc (.cells #[.slice ay yk.length cy, .int .i64 yn] 42) = w := ⟨_, rfl⟩
                    obtain ⟨bq, hbq⟩ : ∃ g, wr.heap.size = g := ⟨_, rfl⟩
                    have hwb : Below wr.heap.size wr wq := by rw [← hwq]; exact (Below.refl _ _).alloc (Nat.le_refl _) _
                    have hqb : wq.heap[bq]? = some (.cells #[.slice ay yk.length cy, .int .i64 yn] 42 (0, 0)) := by rw [← hwq, ← hbq]; exact heap_alloc_new _ _
                    have x0 : wq.cell? ⟨bq, 0, none⟩ = some (.slice ay yk.length cy) := by rw [cell_of_block hqb]; rfl
                    have x1 : wq.cell? ⟨bq, 1, none⟩ = some (.int .i64 yn) := by rw [cell_of_block hqb]; rfl
                    have s1 := (HKY.out.step (Frm.of_below (F := fun _ => False) hwb) (fun _ _ h => h)).strN
                    obtain ⟨e0, e1, hk2⟩ := (HRY.out.below (stepB HBR.out hwb)).at_ cnt _ hfa
                    have lty := (HRY.out.below (stepB HBR.out hwb)).lt
                    obtain ⟨a2, b2, o2, cp2, ey2, -⟩ := _root_.id hk2
                    dsimp only at e1 hk2 ey2
                    rw [ey2] at e0 hk2
                    have s2 := hk2.strN
                    have t1 : ((strB yk).toList == (strB yk).toList) = true := by simp
                    have HWB := Lib.hid (stepB HBR.out hwb)
                    have hnx2 := HNX.out
                    rw [if_pos (show (fun e : Ent => decide (0 < e.2)) (yk, yn) = true by simpa using z0)] at hnx2
                    have HNX2 := Lib.hid hnx2
                    have hcb : (cnt : Int) < (nz : Int) := by omega
                    clear hfa hqb hwb hk2 ey2 hnx2
                    go_wp2_with fail
                    clear hwq hbq
                    go_quiet (fail)
                    obtain ⟨wz, hwz⟩ : ∃ w, wq.drewN nq = w := ⟨_, rfl⟩
                    have hwz2 := HWB.out.trans (show Below _ wq (wq.drewN nq) from ⟨rfl, rfl, rfl, Nat.le_refl _, fun _ _ => rfl⟩)
                    rw [hwz] at hwz2
                    have HWZ := Lib.hid hwz2
                    clear hwz2
                    clear x0 x1 e0 e1 s1 s2 t1
                    rw [hwz]
                    clear hwz
                    go_wp2_with fail
                    refine ⟨⟨q + 1, by omega, by simp, ?_, HWZ.out⟩, by simp [intOf]; omega⟩
                    rw [HNX2.out]
                    simp
                  · clear hcnt
                    have hnx2 := HNX.out
                    rw [if_neg (show ¬ (fun e : Ent => decide (0 < e.2)) (yk, yn) = true by simpa using z0)] at hnx2
                    have HNX2 := Lib.hid hnx2
                    clear hx hnx2
                    go_wp2_with fail
                    refine ⟨⟨q + 1, by omega, by simp, ?_, stepB HBR.out ((Below.refl _ _).alloc (Nat.le_refl _) _)⟩, by simp [intOf]; omega⟩
                    rw [HNX2.out]
                    simp
                · have c7 : ¬ (q : Int) < (nz : Int) := by omega
                  obtain rfl : q = nz := by omega
                  have hcf : ((mt.take q).filter (fun e => decide (0 < e.2))).length = ny := by
                    rw [List.take_of_length_le (by rw [HNZ.out]; exact Nat.le_refl _), HDN.out]
                    exact HNY.out
                  rw [hcf]
                  clear hcf
                  go_wp2_with fail
                  go_ret
                  exact ⟨by simp, B0.out.trans ((stepB HBL.out HBR.out).mono B0.out.size)⟩
          all_goals as_aux_lemma =>
            have HWL8 := Lib.hid ((HL.out.stays HT7.out).more (Nat.le_trans (Nat.le_add_right _ _) HN7.out))
            go_wp2_with fail
            refine ⟨⟨i + 1, es7, none, mt, ev, id, lk, rfl, by simp, ⟨by omega, fun _ h => by cases h⟩, HW7.out, HWL8.out, fun _ h => (by cases h), HK7.out, ?_, HLK.out, HLL.out⟩, ?_⟩
            · have := HT7.out.len
              have h2 := HN7.out
              have h3 := HLN.out
              omega
            · simp [intOf, slen]
              omega

set_option maxRecDepth 100000 in
theorem lifted (os : Os) (started : os.Started) (H : Type) (enc : TypeId × Value → H) (F : Stop.Interp) :
    ReturnsInHanded {} Try.checked os 5 .any ((Rows.OpenSpec.upto Rows.btreeWalksSpec).pre6 enc Try.prog Try.f5 Rows.btreeWalksUptoRow.domain false) (((Rows.OpenSpec.upto Rows.btreeWalksSpec).at F).post enc Try.prog Try.f5 false true false false) := by
  refine returnsInHanded_of_cond (C := Try.checked) (s := Rows.OpenSpec.upto Rows.btreeWalksSpec) (k := Rows.uptoSmall) rfl own started (by kernel_rfl) Try.func5
    (OpenSpec.witness (enc := enc) (C := Try.checked) (s := Rows.OpenSpec.upto Rows.btreeWalksSpec) (k := Rows.uptoSmall) rfl false ⟨#[], #[.slice none 0 0, .slice none 0 0], []⟩ 8 (by kernel_rfl) (by kernel_rfl) (by kernel_rfl)
      (x := ([.nil, .nil], [], [])) (by kernel_rfl) rfl (by kernel_rfl)) ?_
  intro W base args ds gs before hval0 hW _ hk0 _
  have hval : ∀ (j : Nat) t v, Try.f5.params[j]? = some t → args[j]? = some v → Value.okWide Try.prog W .any base t v := hval0
  have hW' := hW
  obtain ⟨p, q, hA0, hV, rfl, hfz, hnd⟩ := hW
  have hA : DataW.TrodAll enc Try.prog W 0 (fun _ => true) true Try.f5.params.toList args.toList ds p := hA0
  rw [Try.params5] at hA hval
  obtain ⟨v0, vs0, d0, ds0, p0, q0, hargs, rfl, rfl, h0, r0⟩ := trodAll_cons hA
  obtain ⟨v1, vs1, d1, ds1, p1, q1, rfl, rfl, rfl, h1, r1⟩ := trodAll_cons r0
  obtain ⟨rfl, rfl, rfl⟩ := trodAll_nil r1
  obtain rfl : args = #[v0, v1] := by cases args; simp_all
  obtain ⟨rfl, rfl⟩ := trodVars_none hV
  have hk : Rows.uptoSmall H [d0, d1] = true := hk0
  have lt0 : ∀ x ∈ p0, x.block < W.heap.size := by obtain ⟨m, hm⟩ := h0; exact DataW.trod_lt m _ _ _ hm
  have lt1 : ∀ x ∈ p1, x.block < W.heap.size := by obtain ⟨m, hm⟩ := h1; exact DataW.trod_lt m _ _ _ hm
  refine (walk (enc := enc) base v0 d0 p0 v1 d1 p1 W (hval 0 52 v0 rfl rfl) h0 (hval 1 22 v1 rfl rfl) h1 hk).mono fun e W' ⟨he, bel⟩ => ?_
  subst he
  exact ⟨_, rfl, _, _, _, [], _, [], hW', trodAll_mk1 (shut_bool Try.underlying4 _), (trodAll_cons_mk (Below.trod laidOut (by kernel_rfl) (of_decide_eq_true (by kernel_rfl)) h0 bel lt0) (trodAll_cons_mk (Below.trod laidOut (by kernel_rfl) (of_decide_eq_true (by kernel_rfl)) h1 bel lt1) trodAll_mk0)), rfl, bel.frame _, fun h => by cases h⟩

theorem over : Rows.btreeWalksUptoRow.holds Try.pinned (Rows.OpenSpec.upto Rows.btreeWalksSpec) :=
  OpenClaim.holds_of_cond 5 Try.f5 rfl rfl rfl rfl rfl rfl rfl ⟨rfl, rfl, rfl, rfl, rfl⟩ rfl rfl rfl rfl rfl (by kernel_rfl) Try.func5 (by kernel_rfl)
    (of_decide_eq_true (by kernel_rfl)) (by unfold Func.isWrapper; first | (rw [if_pos (by decide +kernel)]; kernel_rfl) | (rw [if_neg (by decide +kernel)]; exact ⟨rfl, rfl⟩))
    (fun os started H enc _ F => lifted os started H enc F)

theorem proved : Rows.BtreeWalksUptoSaid :=
  over
end Go.Proofs.Ytncganfjbalkgaa.btreeWalks
