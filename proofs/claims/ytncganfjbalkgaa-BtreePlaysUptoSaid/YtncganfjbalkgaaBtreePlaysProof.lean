/-
  BtreePlays answers true at any script of calls of a bulk of at most 1048576: every call answers as the document says, and the tree and its cursor show the document's entries throughout.
  Conditions: none but the row's own.
-/
import Derived.Test.YtncganfjbalkgaaTr29
import Derived.Test.YtncganfjbalkgaaRows
import Derived.WalkKit
import Derived.ProofKit
import Derived.OpenShut
import Derived.ShutString
import Derived.ChangeOld
import Derived.Below
import Derived.Carry
import Derived.JoinedCond
namespace Go.Proofs.Ytncganfjbalkgaa.btreePlays
open Go.ChangeShapes Go.WideShapes Go.ChangeAt Go.RowKit
open Go.Joins
set_option linter.unusedVariables false

theorem own : ownKnob Try.prog.godebug = none := by kernel_rfl
theorem laidOut : laidOutB Try.prog = true := by kernel_rfl

set_option maxRecDepth 100000 in

set_option maxHeartbeats 8000000 in
theorem walk {H : Type} {enc : TypeId × Value → H} (base : Nat) (v0 : Value) (d0 : DataW H) (p0 : List MemPlace) (W : World)
    (o0 : Value.okWide Try.prog W .any base 22 v0) (h0 : DataW.Trod enc Try.prog W 0 (fun _ => true) true 22 v0 d0 p0)
    (hk : Rows.uptoSmall H [d0] = true) :
    Calls Try.prog 3 #[v0] W fun e w' => e = .returned (.bool true) ∧ Below W.heap.size W w' := by
  obtain ⟨a', n, cap', b', off', kd, idf, kf', kv', rfl, hn, ha', hO⟩ := open_ops o0 h0 (up_arg hk (by simp))
  have HS := Lib.hid speaks_any
  clear o0 h0 hk
  go_enter Try.func3, Try.ntmps3
  go_wp2_with fail
  refine (HS.out _).mono ?_
  rintro x w0 ⟨rfl, b0⟩
  have O0 := Lib.hid (hO.below b0)
  have B0 := Lib.hid b0
  clear hO b0
  go_wp2_with fail
  refine (tc_new w0).mono ?_
  rintro x w1 ⟨t, rfl, hT, -⟩
  have hbs := bs_made hT
  clear hT
  go_upto_region 7 with fail
  generalize w1.alloc (.cells #[] 42) = wA at *
  generalize w1.heap.size = gf at *
  have HB1 := Lib.hid hbs
  obtain ⟨R1, L1, hTA, -⟩ := hbs
  obtain ⟨F1, hX1, -⟩ := hTA.trx
  have HSK := Lib.hid (tseek_any _ wA F1 t [] hX1 (fun _ => True) _ [] (key_nil wA))
  clear hTA hX1
  go_wp2_with fail
  refine HSK.out.mono ?_
  rintro x wB ⟨c, rfl, hc1, hbC, hc2⟩
  rw [show seekSt [] [] = none from rfl] at hc2
  have HC1 := Lib.hid hc1
  have HC2 := Lib.hid hc2
  have HBB := Lib.hid hbC
  have HDS := Lib.hid (seek_any (HB1.out.below hbC) (by simp) (fun e he => by simp at he) (key_nil wB) (by simp))
  clear hc1 hc2 hbC HSK
  go_wp2_with fail
  refine HDS.out.mono ?_
  rintro x wC ⟨hbC2, ⟨k', v, hs, -, -⟩ | ⟨-, rfl⟩⟩
  · cases hs
  obtain ⟨ba, hba⟩ : ∃ g, wC.heap.size = g := ⟨_, rfl⟩
  obtain ⟨wD, hwD⟩ : ∃ w, wC.alloc (.cells #[.slice none 0 0, .bool true] 31) = w := ⟨_, rfl⟩
  have HPK := Lib.hid (pk_start HB1.out HBB.out HC1.out HC2.out hbC2 hba hwD)
  clear hbC2 HDS HC1 HC2 HBB HB1
  go_upto_region 9 with fail
  clear hba hwD
  go_wp2_with fail
  go_loopw [29, 4, 5] (fun i fv cv wx => ∃ (q c : Nat) (es : List Ent) (st : Option (List Nat)) (kv : Value) (en : Bool) (k : List Nat), q ≤ n ∧ i = .int .i64 q ∧ cv = .pointer (some ⟨c, 0, none⟩) ∧ Pk w0 wx t c ba es st fv kv en k ∧ AtD st en k ∧ (∀ e ∈ es, e.1.length ≤ 1048576) ∧ es.length ≤ q ∧ k.length ≤ 1048576) (fun i _ _ _ => n - (intOf i).toNat)
  case atStart => exact ⟨0, c, [], none, _, true, [], Nat.zero_le _, rfl, rfl, HPK.out, Or.inr ⟨rfl, rfl⟩, fun e h => by simp at h, Nat.le_refl _, by simp⟩
  case round =>
    clear HPK
    obtain ⟨i, c, es, st, kv, en, k, hi1, rfl, rfl, hPk, hat, hes, hln, hkl⟩ := hrel
    by_cases ci : i < n
    · have cI : (i : Int) < (n : Int) := by omega
      have O4 := Lib.hid (O0.out.below hPk.bel)
      have d0 := O4.out.c0 i ci
      have d1 := O4.out.c1 i ci
      have d2 := O4.out.c2 i ci
      have ltb2 := O4.out.lt (by omega)
      obtain rfl : a' = some ⟨b', off', none⟩ := by
        rcases ha' with g | g
        · omega
        · exact g
      have hky := O4.out.key i ci
      have hky0 := O4.out.len i ci
      have HKW := Lib.hid (show ∀ wx, Below w0.heap.size w0 wx → KeyAt wx (fun _ => True) (kv' i) (kf' i) from fun wx hb => (O0.out.below hb).key i ci)
      obtain ⟨ak, bk, ok, ck, ekv, -⟩ := _root_.id hky
      rw [ekv] at d1 hky HKW
      have HKY := Lib.hid hky
      have HKL0 := Lib.hid hky0
      have HPK := Lib.hid hPk
      have HAT := Lib.hid hat
      have HES := Lib.hid hes
      have HLN := Lib.hid hln
      have HKL := Lib.hid hkl
      clear hky ekv ha' hky0 hPk hat hes hln hkl
      generalize kd i = pk at *
      generalize idf i = pz at *
      generalize kf' i = ki at *
      obtain ⟨bo, hbo⟩ : ∃ b5, wr.heap.size = b5 := ⟨_, rfl⟩
      obtain ⟨wO, hwO⟩ : ∃ w5, wr.alloc (.cells #[.int .i64 pk, .slice ak ki.length ck, .int .i64 pz] 34) = w5 := ⟨_, rfl⟩
      have hb45 : Below wr.heap.size wr wO := by rw [← hwO]; exact (Below.refl _ _).alloc (Nat.le_refl _) _
      have hbx5 : wO.heap[bo]? = some (.cells #[.int .i64 pk, .slice ak ki.length ck, .int .i64 pz] 34 (0, 0)) := by rw [← hwO, ← hbo]; exact heap_alloc_new _ _
      have HNEW := Lib.hid (pi_new HPK.out hwO hbo (HKY.out.step (Frm.of_below (F := fun _ => False) hb45) (fun _ _ h => h)) (by have := HKL0.out; omega))
      have e1 : wO.cell? ⟨bo, 1, none⟩ = some (.slice ak ki.length ck) := by rw [cell_of_block hbx5]; rfl
      clear hb45 hbx5
      go_upto_region 11 with fail
      go_wp2_with fail
      refine HNEW.out.mono ?_
      rintro x w2 ⟨gi, cp, rfl, b2, hp2⟩
      have HP2 := Lib.hid hp2
      have hop := hp2.op
      have e0 : w2.cell? ⟨bo, 0, none⟩ = some (.int .i64 pk) := by rw [cell_of_block hop]; rfl
      have e1 : w2.cell? ⟨bo, 1, none⟩ = some (.slice ak ki.length ck) := by rw [cell_of_block hop]; rfl
      have e2 : w2.cell? ⟨bo, 2, none⟩ = some (.int .i64 pz) := by rw [cell_of_block hop]; rfl
      have lto : bo < w2.heap.size := (Array.getElem?_eq_some_iff.1 hop).1
      obtain ⟨sv, hsv⟩ : ∃ s, bits BinOp.and IntKind.i64 pk 7 = s := ⟨_, rfl⟩
      clear hwO hbo b2 hp2 hop HNEW d0 d1 d2 ltb2
      have hcs : sv = 0 ∨ sv = 1 ∨ sv = 2 ∨ sv = 3 ∨ sv = 4 ∨ sv = 5 ∨ ((sv == 0) = false ∧ (sv == 1) = false ∧ (sv == 2) = false ∧ (sv == 3) = false ∧ (sv == 4) = false ∧ (sv == 5) = false) := by
        simp only [beq_eq_false_iff_ne, ne_eq]
        omega
      rcases hcs with rfl | rfl | rfl | rfl | rfl | rfl | ⟨s0, s1, s2, s3, s4, s5⟩
      focus
        have HPT := Lib.hid (pi_put HP2.out (by have := HLN.out; omega) pz)
        go_wp2_with fail
        refine HPT.out.mono ?_
        rintro x w3 ⟨rfl, h3⟩
        have HP3 := Lib.hid h3
        have HRP := Lib.hid (pi_rput h3 (by have := HLN.out; omega) (fun e he => by have := HES.out e he; unfold maxLen; omega) (HKW.out w3 h3.bel) (by have := HKL0.out; omega) pz)
        clear h3 HPT e0 e1 e2 lto
        have y0 : w3.cell? ⟨bo, 0, none⟩ = some (.int .i64 pk) := by rw [cell_of_block HP3.out.op]; rfl
        have y1 : w3.cell? ⟨bo, 1, none⟩ = some (.slice ak ki.length ck) := by rw [cell_of_block HP3.out.op]; rfl
        have y2 : w3.cell? ⟨bo, 2, none⟩ = some (.int .i64 pz) := by rw [cell_of_block HP3.out.op]; rfl
        have yl : bo < w3.heap.size := (Array.getElem?_eq_some_iff.1 HP3.out.op).1
        go_wp2_with fail
        refine HRP.out.mono ?_
        rintro x w7 ⟨fv7, rfl, h7⟩
        have HES7 := Lib.hid (show ∀ e ∈ ePut es ki pz, e.1.length ≤ 1048576 from fun e he => by
          rcases ePut_mem he with h | rfl
          · exact HES.out e h
          · exact HKL0.out)
        have HLN7 := Lib.hid (show (ePut es ki pz).length ≤ i + 1 by have := ePut_le es ki pz; have := HLN.out; omega)
        generalize ePut es ki pz = es7 at *
        generalize (!(ePl es ki).2) = bb at *
        have HP7 := Lib.hid h7
        have HAT7 := HAT
        have HKL7 := HKL
        clear h7 HRP HP3 y0 y1 y2 yl
        go_upto_region 34 with fail
      rotate_right
      focus
        have hbx := HP2.out.box
        have v1 : w2.cell? ⟨ba, 1, none⟩ = some (.bool en) := by rw [cell_of_block hbx]; rfl
        have ltba : ba < w2.heap.size := (Array.getElem?_eq_some_iff.1 hbx).1
        obtain ⟨st7, hst7⟩ : ∃ s, (st.bind fun k => seekSt es (k ++ [0])) = s := ⟨_, rfl⟩
        have HNX := Lib.hid (fun wx (hb : Below w2.heap.size w2 wx) => pi_next (HP2.out.below hb) (fun k1 e => by
          rcases HAT.out with ⟨h, -⟩ | ⟨h, -⟩
          · rw [h] at e; cases e; have := HKL.out; omega
          · rw [h] at e; cases e) hst7)
        have hs := Below.refl w2.heap.size w2
        clear hbx
        go_upto_region 14 with fail
        have hs1 := hs.drew
        go_region_with (first | (go_at_call 20; refine (HNX.out _ ?_).mono ?_; assumption; rintro x w3 ⟨rfl, h3⟩; have HP3 := Lib.hid h3; have v3 : w3.cell? ⟨ba, 1, none⟩ = some (.bool en) := (by rw [cell_of_block h3.box]; rfl); have lt3 : ba < w3.heap.size := (Array.getElem?_eq_some_iff.1 h3.box).1; clear h3))
        all_goals
          clear hs hs1 v1 ltba e0 e1 e2 lto
          rcases HAT.out with ⟨hsk, rfl⟩ | ⟨hsk, rfl⟩
          focus
            have hst8 := hst7
            rw [hsk] at hst8
            change seekSt es (k ++ [0]) = st7 at hst8
            have HS8 := Lib.hid hst8
            obtain ⟨akv, bkv, okv, ckv, ekv7, -⟩ := _root_.id HP3.out.key
            have hbx3 := HP3.out.box
            have hkey3 := HP3.out.key
            rw [ekv7] at hbx3 hkey3
            have v2 : w3.cell? ⟨ba, 0, none⟩ = some (.slice akv k.length ckv) := by rw [cell_of_block hbx3]; rfl
            have HCP := Lib.hid (copy_new hkey3 (by have := HKL.out; omega))
            clear hst7 hst8 hbx3 hkey3 ekv7 hsk
            go_wp2_with fail
            refine HCP.out.mono ?_
            rintro x w4 ⟨g4, c4, rfl, ho4, hk4, hg4, hg4', b4⟩
            have HE4 := Lib.hid (show En w3 w4 w3.heap.size (.slice (some ⟨g4, 0, none⟩) k.length c4) k from ⟨ho4, b4, b4.size⟩)
            have HKT := Lib.hid hk4.lt
            clear ho4 hk4 hg4 hg4' b4 HCP v2 v3 lt3
            go_wp2_with (first | (at_builtin; refine wp_push rfl _ _ rfl w3.heap.size _ _ rfl (HE4.out.own.alloc _) ⟨w4.heap.size, 0, none⟩ 1 1 [0] rfl rfl (news1' w4 _ _ rfl) (by have := HKL.out; omega) (HE4.out.alloc _).sz ?_; intro v5 w5 hown hgrow; have HE5 := Lib.hid ((HE4.out.alloc _).push hown hgrow); clear hown hgrow))
            have HSEEK := Lib.hid (seek_any2 (HP3.out.below HE5.out.bel).bs (by have := HLN.out; omega) HES.out (HE5.out.own.keyAt (R := fun _ => True) (fun x hx => by
              rcases List.mem_append.1 hx with h | h
              · exact HKT.out x h
              · simp at h; omega) (fun _ _ => trivial)) (by have := HKL.out; simp; omega))
            refine HSEEK.out.mono ?_
            rintro x w6 ⟨a6, m6, c6, en6, k6, rfl, b6, hk6, hst6, hkl6⟩
            have hb36 := stepB HE5.out.bel b6
            have hbx6 := (HP3.out.below hb36).box
            obtain ⟨hp1, hp2⟩ := box_put2 (c := .slice a6 m6 c6) (d := .bool en6) hbx6
            have hP7 := HP3.out.stand hb36 (hk6.mono (fun g hg => ⟨Nat.le_trans HE5.out.bel.size hg.1, hg.2⟩)) hp1 hp2
            have HP7' := Lib.hid hP7
            have u0 := cell_of_block hbx6 0
            have u1 := cell_of_block hbx6 1
            have f0 := unfrozen_of_block hbx6 0
            have f1 := unfrozen_of_block hbx6 1
            have ul : ba < w6.heap.size := (Array.getElem?_eq_some_iff.1 hbx6).1
            have u2 := cell_of_block hp1 1
            have HKL7 := Lib.hid hkl6
            have HES7 := HES
            have HLN7 := Lib.hid (show es.length ≤ i + 1 by have := HLN.out; omega)
            rw [HS8.out] at hst6
            clear hbx6 hp1 hp2 hP7 b6 hk6 HSEEK hb36
            rcases hst6 with ⟨rfl, rfl⟩ | ⟨rfl, rfl⟩
            focus
              go_upto_region 34 with fail
              have HAT7 := Lib.hid (show AtD (some k6) false k6 from Or.inl ⟨rfl, rfl⟩)
              obtain ⟨bb, hbb⟩ : ∃ b, true = b := ⟨_, rfl⟩
              clear hbb u0 u1 f0 f1 ul u2
              generalize (w6.setCell ⟨ba, 0, none⟩ (.slice a6 m6 c6)).setCell ⟨ba, 1, none⟩ (.bool false) = w7 at *
              have HP7 := HP7'
            rotate_right
            focus
              go_upto_region 34 with fail
              have HAT7 := Lib.hid (show AtD none true k6 from Or.inr ⟨rfl, rfl⟩)
              obtain ⟨bb, hbb⟩ : ∃ b, true = b := ⟨_, rfl⟩
              clear hbb u0 u1 f0 f1 ul u2
              generalize (w6.setCell ⟨ba, 0, none⟩ (.slice a6 m6 c6)).setCell ⟨ba, 1, none⟩ (.bool true) = w7 at *
              have HP7 := HP7'
          rotate_right
          focus
            have hst8 := hst7
            rw [hsk] at hst8
            change none = st7 at hst8
            subst hst8
            clear hst7
            have HAT7 := Lib.hid (show AtD none true k from Or.inr ⟨rfl, rfl⟩)
            have HKL7 := HKL
            have HES7 := HES
            have HLN7 := Lib.hid (show es.length ≤ i + 1 by have := HLN.out; omega)
            obtain ⟨bb, hbb⟩ : ∃ b, true = b := ⟨_, rfl⟩
            clear hbb hsk
            go_upto_region 34 with fail
            have HP7 := HP3
            clear v3 lt3
            generalize w3 = w7 at *
      rotate_right
      focus
        obtain ⟨F2, hX2⟩ := HP2.out.trx
        have HS1 := Lib.hid (fun wx (hb : Below w2.heap.size w2 wx) => tseek_any _ wx F2 t es (hX2.below hb) _ _ ki ((HP2.out.below hb).inn.1))
        have HS2 := Lib.hid (fun wx (hb : Below w2.heap.size w2 wx) => seek_any2 (HP2.out.below hb).bs (by have := HLN.out; omega) HES.out (HKW.out wx (HP2.out.below hb).bel) (by have := HKL0.out; omega))
        obtain ⟨st7, hst7⟩ : ∃ s, seekSt es ki = s := ⟨_, rfl⟩
        rw [hst7] at HS1 HS2
        have hs := Below.refl w2.heap.size w2
        clear hX2 hst7
        go_upto_region 33 with fail
        have hs1 := hs.drew
        go_region_with (first
          | (go_at_call 9; refine (HS1.out _ ?_).mono ?_; assumption; rintro x w3 ⟨c7, rfl, hc1, b3, hc2⟩; have hs3 := stepB (show Below w2.heap.size w2 _ by assumption) b3; have hcc := Nat.le_trans (show Below w2.heap.size w2 _ by assumption).size hc1; have HQ3 := Lib.hid (HP2.out.seeked hs3 hcc hc2); have y1 : w3.cell? ⟨bo, 1, none⟩ = some (.slice ak ki.length ck) := (by rw [cell_of_block HQ3.out.op]; rfl); have lto3 : bo < w3.heap.size := (Array.getElem?_eq_some_iff.1 HQ3.out.op).1; clear hc1 b3 hc2 hcc)
          | (go_at_call 10; refine (HS2.out _ ?_).mono ?_; assumption; rintro x w4 ⟨a6, m6, c6, en6, k6, rfl, b4, hk6, hst6, hkl6⟩; have HQ4 := Lib.hid (HQ3.out.below b4); have hbx6 := HQ4.out.box; have u0 := cell_of_block hbx6 0; have u1 := cell_of_block hbx6 1; have f0 := unfrozen_of_block hbx6 0; have f1 := unfrozen_of_block hbx6 1; have ul : ba < w4.heap.size := (Array.getElem?_eq_some_iff.1 hbx6).1; have HB4 := Lib.hid b4; have HK6 := Lib.hid hk6; have HST6 := Lib.hid hst6; have HKL6 := Lib.hid hkl6; clear b4 hk6 hst6 hkl6 hbx6))
        all_goals
          have hbx6 := HQ4.out.box
          obtain ⟨hp1, hp2⟩ := box_put2 (c := .slice a6 m6 c6) (d := .bool en6) hbx6
          have HP7' := Lib.hid (HQ3.out.stand HB4.out HK6.out hp1 hp2)
          have HAT7 : Hid (AtD st7 en6 k6) := HST6
          have HKL7 := HKL6
          have HES7 := HES
          have HLN7 := Lib.hid (show es.length ≤ i + 1 by have := HLN.out; omega)
          obtain ⟨bb, hbb⟩ : ∃ b, true = b := ⟨_, rfl⟩
          clear hbx6 hp1 hp2 hbb u0 u1 f0 f1 ul y1 lto3 e0 e1 e2 lto hs hs1
          go_upto_region 34 with fail
          generalize (w4.setCell ⟨ba, 0, none⟩ (.slice a6 m6 c6)).setCell ⟨ba, 1, none⟩ (.bool en6) = w7 at *
          have HP7 := HP7'
      rotate_right
      focus
        obtain ⟨F2, hX2⟩ := HP2.out.trx
        have HFR := Lib.hid (tfrom_any _ w2 F2 t es hX2 _ _ ki HP2.out.inn.1)
        clear hX2
        go_wp2_with fail
        refine HFR.out.mono ?_
        rintro x w3 ⟨b3, hres⟩
        obtain ⟨j, hj⟩ : ∃ j, (ePl es ki).1 = j := ⟨_, rfl⟩
        rw [hj] at hres
        obtain ⟨av, cv, k2, id, fo, hxx, how, hcase⟩ : ∃ (av : Option Addr) (cv : Nat) (k2 : List Nat) (id : Int) (fo : Bool), x = .returned (.tuple #[.agg #[.slice av k2.length cv, .int .i64 id], .bool fo]) ∧ ((Value.slice av k2.length cv = .slice none 0 0 ∧ k2 = []) ∨ OwK w3 w2.heap.size (.slice av k2.length cv) k2) ∧ ((fo = true ∧ k2.length ≤ 1048576 ∧ es[j]? = some (k2, id) ∧ KeyAt w3 (fun g => w2.heap.size ≤ g) (.slice av k2.length cv) k2) ∨ (fo = false ∧ k2.length = 0 ∧ id = 0 ∧ j = es.length)) := by
          rcases hres with ⟨y, v1, q1, q2, q3⟩ | ⟨q1, q2⟩
          · obtain ⟨g, cq, e, hg⟩ := _root_.id q2
            subst e
            refine ⟨some ⟨g, 0, none⟩, cq, y.1, y.2, true, q3, .inr q2, .inl ⟨rfl, HES.out y (List.mem_of_getElem? q1), q1, q2.keyAt (fun q hq => ?_)⟩⟩
            simp only [Value.ownBlock, Option.some.injEq] at hq
            subst hq
            exact hg.1
          · refine ⟨none, 0, [], 0, false, q2, .inl ⟨rfl, rfl⟩, .inr ⟨rfl, rfl, rfl, ?_⟩⟩
            have h1 := (ePl_le es ki).1
            rw [hj] at h1
            have h2 : es.length ≤ j := by simpa using q1
            omega
        subst hxx
        obtain ⟨ml, hml⟩ : ∃ m, k2.length = m := ⟨_, rfl⟩
        rw [hml] at how hcase ⊢
        obtain ⟨bq, hbq⟩ : ∃ z, w3.heap.size = z := ⟨_, rfl⟩
        obtain ⟨w4, hw4⟩ : ∃ w3', w3.alloc (.cells #[.slice av ml cv, .int .i64 id] 42) = w3' := ⟨_, rfl⟩
        have hb4 : Below w3.heap.size w3 w4 := by rw [← hw4]; exact (Below.refl _ _).alloc (Nat.le_refl _) _
        have hx4 : w4.heap[bq]? = some (.cells #[.slice av ml cv, .int .i64 id] 42 (0, 0)) := by rw [← hw4, ← hbq]; exact heap_alloc_new _ _
        have HX4 := Lib.hid hx4
        have HML := Lib.hid hml
        have HB3 := Lib.hid b3
        have HB4 := Lib.hid (stepB b3 hb4)
        have HOW4 := Lib.hid (how.imp_right fun h => h.below hb4)
        have HP4 := Lib.hid (HP2.out.below HB4.out)
        have HCS := Lib.hid hcase
        have HS4 := Lib.hid hb4
        have HPL := Lib.hid (bs_place HP4.out.bs (by have := HLN.out; unfold maxLen; omega) (fun e he => by have := HES.out e he; unfold maxLen; omega) (HKW.out w4 HP4.out.bel) (by have := HKL0.out; unfold maxLen; omega))
        rw [hj] at HPL
        obtain ⟨nf, hnf⟩ : ∃ n, es.length = n := ⟨_, rfl⟩
        have HNF := Lib.hid hnf
        obtain ⟨gf4, cf4, mf4, efv, -⟩ := HP4.out.bs.at
        subst efv
        rw [hnf] at HPL HP4 HP2 ⊢
        have z1 : w4.cell? ⟨bo, 1, none⟩ = some (.slice ak ki.length ck) := by rw [cell_of_block HP4.out.op]; rfl
        have z2 : bo < w4.heap.size := (Array.getElem?_eq_some_iff.1 HP4.out.op).1
        clear b3 hres hj how hcase hml hb4 hx4 hnf HFR e0 e1 e2 lto
        go_wp2_with fail
        refine HPL.out.mono ?_
        rintro x w5 ⟨rfl, b5⟩
        have HB5 := Lib.hid (stepB HB4.out b5)
        have hx5 := (b5.block _ (Array.getElem?_eq_some_iff.1 HX4.out).1).trans HX4.out
        have HX5 := Lib.hid hx5
        have y0 : w5.cell? ⟨bq, 0, none⟩ = some (.slice av ml cv) := by rw [cell_of_block hx5]; rfl
        have y1 : w5.cell? ⟨bq, 1, none⟩ = some (.int .i64 id) := by rw [cell_of_block hx5]; rfl
        have yl : bq < w5.heap.size := (Array.getElem?_eq_some_iff.1 hx5).1
        have HOW5 := Lib.hid (HOW4.out.imp_right fun h => h.below b5)
        have HP5 := Lib.hid (HP4.out.below b5)
        have HS5 := Lib.hid b5
        clear b5 hx5 hw4 hbq z1 z2
        obtain ⟨R5, L5, -, hM5⟩ := HP5.out.bs
        have HM5 := Lib.hid hM5
        clear hM5
        rcases HCS.out with ⟨rfl, hm2, hit, hka⟩ | ⟨rfl, hm2, hid0, hjj⟩
        focus
          have hjn : (j : Int) < (nf : Int) := by have := (List.getElem?_eq_some_iff.1 hit).1; have := HNF.out; omega
          have hka5 := (hka.step (Frm.of_below (F := fun _ => False) HS4.out) (fun _ _ h => h)).step (Frm.of_below (F := fun _ => False) HS5.out) (fun _ _ h => h)
          have HSE := Lib.hid (sameentry_some _ w5 R5 (fun g => w2.heap.size ≤ g) _ _ L5 es _ id j HM5.out (by have := HLN.out; unfold maxLen; omega) hit hka5)
          have hm3 : ml ≤ 4294967296 := by omega
          clear hit hka hka5 hm2
          go_wp2_with fail
          refine HSE.out.mono ?_
          rintro x w6 ⟨rfl, b6⟩
        rotate_right
        focus
          have hjn : ¬ (j : Int) < (nf : Int) := by have := HNF.out; omega
          have hjd : decide (j < nf) = false := by have := HNF.out; simp; omega
          have HSE := Lib.hid (sameentry_none' av cv ml id (.slice (some ⟨gf4, 0, none⟩) nf cf4) j w5 hm2 hid0)
          have hm3 : ml ≤ 4294967296 := by omega
          clear hm2 hid0 hjj
          go_wp2_with fail
          refine HSE.out.mono ?_
          rintro x w6 ⟨rfl, b6⟩
        all_goals
          have HB6 := Lib.hid (stepB HB5.out b6)
          have hx6 := (b6.block _ (Array.getElem?_eq_some_iff.1 HX5.out).1).trans HX5.out
          have HOW6 := Lib.hid (HOW5.out.imp_right fun h => h.below b6)
          have u0 := cell_of_block hx6 0
          have u1 := cell_of_block hx6 1
          have ul : bq < w6.heap.size := (Array.getElem?_eq_some_iff.1 hx6).1
          have hsp : ∃ vk lk, Spl (w6.alloc (.cells #[.slice av ml cv, .int .i64 id] 42)) (fun g => w2.heap.size ≤ g) w6.heap.size 1 vk lk ∧ ∀ i, i < 1 → lk i ≤ 4294967296 := by
            rcases HOW6.out with ⟨e, -⟩ | h
            · rw [e]
              exact ⟨_, _, spl_nil (n := id) HB6.out.size, fun i _ => by decide⟩
            · exact ⟨_, _, spl_one (n := id) h HB6.out.size, fun i _ => by have := HML.out; show k2.length ≤ 4294967296; omega⟩
          obtain ⟨vk, lk, hsp, hlk⟩ := hsp
          have HSP := Lib.hid (spoil_any _ _ w6.heap.size 1 1 vk lk hsp (by decide) hlk)
          clear hsp hlk b6 hx6 y0 y1 yl
          go_wp2_with fail
          refine HSP.out.mono ?_
          rintro x w7 ⟨rfl, h7⟩
          have hal := stepB HB6.out ((Below.refl w6.heap.size w6).alloc (Nat.le_refl _) (.cells #[.slice av ml cv, .int .i64 id] 42))
          have HP7 := Lib.hid (HP2.out.below (hal.trans (h7.below (fun k hk => hk) hal.size)))
          have HES7 := HES
          have HLN7 := Lib.hid (show es.length ≤ i + 1 by have := HLN.out; omega)
          have HAT7 := HAT
          have HKL7 := HKL
          obtain ⟨bb, hbb⟩ : ∃ b, true = b := ⟨_, rfl⟩
          clear h7 hal hbb u0 u1 ul
          go_upto_region 34 with fail
      rotate_right
      focus
        have HPT := Lib.hid (pi_drop HP2.out (by have := HLN.out; omega))
        go_wp2_with fail
        refine HPT.out.mono ?_
        rintro x w3 ⟨rfl, h3⟩
        have HP3 := Lib.hid h3
        have HRP := Lib.hid (pi_rdrop h3 (by have := HLN.out; omega) (fun e he => by have := HES.out e he; unfold maxLen; omega) (HKW.out w3 h3.bel) (by have := HKL0.out; omega))
        clear h3 HPT e0 e1 e2 lto
        have y0 : w3.cell? ⟨bo, 0, none⟩ = some (.int .i64 pk) := by rw [cell_of_block HP3.out.op]; rfl
        have y1 : w3.cell? ⟨bo, 1, none⟩ = some (.slice ak ki.length ck) := by rw [cell_of_block HP3.out.op]; rfl
        have y2 : w3.cell? ⟨bo, 2, none⟩ = some (.int .i64 pz) := by rw [cell_of_block HP3.out.op]; rfl
        have yl : bo < w3.heap.size := (Array.getElem?_eq_some_iff.1 HP3.out.op).1
        go_wp2_with fail
        refine HRP.out.mono ?_
        rintro x w7 ⟨fv7, rfl, h7⟩
        have HES7 := Lib.hid (show ∀ e ∈ eDel es ki, e.1.length ≤ 1048576 from fun e he => HES.out e (eDel_mem he))
        have HLN7 := Lib.hid (show (eDel es ki).length ≤ i + 1 by have := (went (l := es) (k := ki) (fun _ => true)).2; have hft : ∀ l : List Ent, l.filter (fun _ => true) = l := fun l => List.filter_eq_self.2 (fun _ _ => rfl); rw [hft, hft] at this; have := HLN.out; omega)
        generalize eDel es ki = es7 at *
        generalize (ePl es ki).2 = bb at *
        have HP7 := Lib.hid h7
        have HAT7 := HAT
        have HKL7 := HKL
        clear h7 HRP HP3 y0 y1 y2 yl
        go_upto_region 34 with fail
      rotate_right
      focus
        have HPT := Lib.hid (pi_put HP2.out (by have := HLN.out; omega) pz)
        go_wp2_with fail
        refine HPT.out.mono ?_
        rintro x w3 ⟨rfl, h3⟩
        have HP3 := Lib.hid h3
        have HRP := Lib.hid (pi_rput h3 (by have := HLN.out; omega) (fun e he => by have := HES.out e he; unfold maxLen; omega) (HKW.out w3 h3.bel) (by have := HKL0.out; omega) pz)
        clear h3 HPT e0 e1 e2 lto
        have y0 : w3.cell? ⟨bo, 0, none⟩ = some (.int .i64 pk) := by rw [cell_of_block HP3.out.op]; rfl
        have y1 : w3.cell? ⟨bo, 1, none⟩ = some (.slice ak ki.length ck) := by rw [cell_of_block HP3.out.op]; rfl
        have y2 : w3.cell? ⟨bo, 2, none⟩ = some (.int .i64 pz) := by rw [cell_of_block HP3.out.op]; rfl
        have yl : bo < w3.heap.size := (Array.getElem?_eq_some_iff.1 HP3.out.op).1
        go_wp2_with fail
        refine HRP.out.mono ?_
        rintro x w7 ⟨fv7, rfl, h7⟩
        have HES7 := Lib.hid (show ∀ e ∈ ePut es ki pz, e.1.length ≤ 1048576 from fun e he => by
          rcases ePut_mem he with h | rfl
          · exact HES.out e h
          · exact HKL0.out)
        have HLN7 := Lib.hid (show (ePut es ki pz).length ≤ i + 1 by have := ePut_le es ki pz; have := HLN.out; omega)
        generalize ePut es ki pz = es7 at *
        generalize (!(ePl es ki).2) = bb at *
        have HP7 := Lib.hid h7
        have HAT7 := HAT
        have HKL7 := HKL
        clear h7 HRP HP3 y0 y1 y2 yl
        go_upto_region 34 with fail
      rotate_right
      focus
        have HPT := Lib.hid (pi_put HP2.out (by have := HLN.out; omega) pz)
        go_wp2_with fail
        refine HPT.out.mono ?_
        rintro x w3 ⟨rfl, h3⟩
        have HP3 := Lib.hid h3
        have HRP := Lib.hid (pi_rput h3 (by have := HLN.out; omega) (fun e he => by have := HES.out e he; unfold maxLen; omega) (HKW.out w3 h3.bel) (by have := HKL0.out; omega) pz)
        clear h3 HPT e0 e1 e2 lto
        have y0 : w3.cell? ⟨bo, 0, none⟩ = some (.int .i64 pk) := by rw [cell_of_block HP3.out.op]; rfl
        have y1 : w3.cell? ⟨bo, 1, none⟩ = some (.slice ak ki.length ck) := by rw [cell_of_block HP3.out.op]; rfl
        have y2 : w3.cell? ⟨bo, 2, none⟩ = some (.int .i64 pz) := by rw [cell_of_block HP3.out.op]; rfl
        have yl : bo < w3.heap.size := (Array.getElem?_eq_some_iff.1 HP3.out.op).1
        go_wp2_with fail
        refine HRP.out.mono ?_
        rintro x w7 ⟨fv7, rfl, h7⟩
        have HES7 := Lib.hid (show ∀ e ∈ ePut es ki pz, e.1.length ≤ 1048576 from fun e he => by
          rcases ePut_mem he with h | rfl
          · exact HES.out e h
          · exact HKL0.out)
        have HLN7 := Lib.hid (show (ePut es ki pz).length ≤ i + 1 by have := ePut_le es ki pz; have := HLN.out; omega)
        generalize ePut es ki pz = es7 at *
        generalize (!(ePl es ki).2) = bb at *
        have HP7 := Lib.hid h7
        have HAT7 := HAT
        have HKL7 := HKL
        clear h7 HRP HP3 y0 y1 y2 yl
        go_upto_region 34 with fail
      all_goals as_aux_lemma =>
        have y1 : w7.cell? ⟨bo, 1, none⟩ = some (.slice ak ki.length ck) := by rw [cell_of_block HP7.out.op]; rfl
        have yl : bo < w7.heap.size := (Array.getElem?_eq_some_iff.1 HP7.out.op).1
        have s1 := HP7.out.inn.1.str
        have s2 := (HKW.out w7 HP7.out.bel).str
        have t2 : (bb != bb) = false := by simp
        have HW7 := Lib.hid HP7.out.inn.2
        obtain ⟨m, hm⟩ : ∃ m, ki.length = m := ⟨_, rfl⟩
        have HM := Lib.hid hm
        rw [hm] at y1 s1 s2 HW7 HKW ⊢
        have hm9 : m ≤ 1048576 := by have := HKL0.out; omega
        clear hm
        go_upto_region 37 with fail
        clear s1 s2 y1
        go_wp2_with fail
        go_loopw [141] (fun j wx => ∃ r : Nat, r ≤ m ∧ j = .int .i64 r ∧ Frm (fun q => q = gi) w7 wx ∧ WrK wx gi m) (fun j _ => m - (intOf j).toNat)
        case atStart => exact ⟨0, Nat.zero_le _, rfl, Frm.refl _ _, HW7.out⟩
        case round =>
          obtain ⟨r, hr, rfl, hf, hw⟩ := hrel
          by_cases c2 : r < m
          · have c3 : (r : Int) < (m : Int) := by omega
            obtain ⟨⟨x, hx⟩, hfx⟩ := hw r c2
            have HF := Lib.hid (hf.setCell (g := gi) (.inl rfl) r (.int .u8 221))
            have HWW := Lib.hid (hw.set ⟨gi, r, none⟩ (.int .u8 221))
            clear hf hw
            go_wp2_with fail
            exact ⟨⟨r + 1, by omega, by simp, HF.out, HWW.out⟩, by simp [intOf]; omega⟩
          · have c3 : ¬ (r : Int) < (m : Int) := by omega
            obtain rfl : r = m := by omega
            have HPK9 := Lib.hid (HP7.out.done hf)
            have hop := (hf.heap yl HP7.out.gb).trans HP7.out.op
            have y1 : wr.cell? ⟨bo, 1, none⟩ = some (.slice ak ki.length ck) := by rw [cell_of_block hop]; rfl
            rw [HM.out] at y1
            have yl2 : bo < wr.heap.size := (Array.getElem?_eq_some_iff.1 hop).1
            have HSH := Lib.hid (shown_any HPK9.out.bs (by have := HLN7.out; omega) HES7.out (HKW.out wr HPK9.out.bel) (by have := HM.out; omega))
            clear hf hw hop
            go_wp2_with fail
            refine HSH.out.mono ?_
            rintro x w8 ⟨rfl, b8⟩
            have HPK8 := Lib.hid (HPK9.out.below b8)
            obtain ⟨akv, bkv, okv, ckv, ekv7, -⟩ := _root_.id HPK8.out.key
            have hbx := HPK8.out.box
            have hkey := HPK8.out.key
            rw [ekv7] at hbx hkey
            have u0 := cell_of_block hbx 0
            have u1 := cell_of_block hbx 1
            have ltba : ba < w8.heap.size := (Array.getElem?_eq_some_iff.1 hbx).1
            have HST := Lib.hid (stood_any HPK8.out.bs (by have := HLN7.out; omega) HES7.out HPK8.out.cur hkey (by have := HKL7.out; omega) HAT7.out)
            clear hbx hkey ekv7 b8 HSH
            go_wp2_with fail
            refine HST.out.mono ?_
            rintro x w9 ⟨rfl, b9⟩
            have HPK10 := Lib.hid (HPK8.out.below b9)
            clear b9
            go_wp2_with fail
            exact ⟨⟨i + 1, _, _, _, _, _, _, by omega, by simp, rfl, HPK10.out, HAT7.out, HES7.out, HLN7.out, HKL7.out⟩, by simp [intOf]; omega⟩
    · have c1 : ¬ (i : Int) < (n : Int) := by omega
      have HSH := Lib.hid (shown_any hPk.bs (by omega) hes (key_nil wr) (by simp))
      have HBL := Lib.hid hPk.bel
      clear hPk hes hat
      go_wp2_with fail
      refine HSH.out.mono ?_
      rintro x w8 ⟨rfl, b8⟩
      have HB8 := Lib.hid (stepB HBL.out b8)
      clear b8
      go_wp2
      go_ret
      exact ⟨rfl, B0.out.trans (HB8.out.mono B0.out.size)⟩

set_option maxRecDepth 100000 in
theorem lifted (os : Os) (started : os.Started) (H : Type) (enc : TypeId × Value → H) (F : Stop.Interp) :
    ReturnsInHanded {} Try.checked os 3 .any ((Rows.OpenSpec.upto Rows.btreePlaysSpec).pre6 enc Try.prog Try.f3 Rows.btreePlaysUptoRow.domain false) (((Rows.OpenSpec.upto Rows.btreePlaysSpec).at F).post enc Try.prog Try.f3 false true false false) := by
  refine returnsInHanded_of_cond (C := Try.checked) (s := Rows.OpenSpec.upto Rows.btreePlaysSpec) (k := Rows.uptoSmall) rfl own started (by kernel_rfl) Try.func3
    (OpenSpec.witness (enc := enc) (C := Try.checked) (s := Rows.OpenSpec.upto Rows.btreePlaysSpec) (k := Rows.uptoSmall) rfl false ⟨#[], #[.slice none 0 0], []⟩ 8 (by kernel_rfl) (by kernel_rfl) (by kernel_rfl)
      (x := ([.nil], [], [])) (by kernel_rfl) rfl (by kernel_rfl)) ?_
  intro W base args ds gs before hval0 hW _ hk0 _
  have hval : ∀ (j : Nat) t v, Try.f3.params[j]? = some t → args[j]? = some v → Value.okWide Try.prog W .any base t v := hval0
  have hW' := hW
  obtain ⟨p, q, hA0, hV, rfl, hfz, hnd⟩ := hW
  have hA : DataW.TrodAll enc Try.prog W 0 (fun _ => true) true Try.f3.params.toList args.toList ds p := hA0
  rw [Try.params3] at hA hval
  obtain ⟨v0, vs0, d0, ds0, p0, q0, hargs, rfl, rfl, h0, r0⟩ := trodAll_cons hA
  obtain ⟨rfl, rfl, rfl⟩ := trodAll_nil r0
  obtain rfl : args = #[v0] := by cases args; simp_all
  obtain ⟨rfl, rfl⟩ := trodVars_none hV
  have hk : Rows.uptoSmall H [d0] = true := hk0
  have lt0 : ∀ x ∈ p0, x.block < W.heap.size := by obtain ⟨m, hm⟩ := h0; exact DataW.trod_lt m _ _ _ hm
  refine (walk (enc := enc) base v0 d0 p0 W (hval 0 22 v0 rfl rfl) h0 hk).mono fun e W' ⟨he, bel⟩ => ?_
  subst he
  exact ⟨_, rfl, _, _, _, [], _, [], hW', trodAll_mk1 (shut_bool Try.underlying4 _), (trodAll_cons_mk (Below.trod laidOut (by kernel_rfl) (of_decide_eq_true (by kernel_rfl)) h0 bel lt0) trodAll_mk0), rfl, bel.frame _, fun h => by cases h⟩

theorem over : Rows.btreePlaysUptoRow.holds Try.pinned (Rows.OpenSpec.upto Rows.btreePlaysSpec) :=
  OpenClaim.holds_of_cond 3 Try.f3 rfl rfl rfl rfl rfl rfl rfl ⟨rfl, rfl, rfl, rfl, rfl⟩ rfl rfl rfl rfl rfl (by kernel_rfl) Try.func3 (by kernel_rfl)
    (of_decide_eq_true (by kernel_rfl)) (by unfold Func.isWrapper; first | (rw [if_pos (by decide +kernel)]; kernel_rfl) | (rw [if_neg (by decide +kernel)]; exact ⟨rfl, rfl⟩))
    (fun os started H enc _ F => lifted os started H enc F)

theorem proved : Rows.BtreePlaysUptoSaid :=
  over
end Go.Proofs.Ytncganfjbalkgaa.btreePlays
