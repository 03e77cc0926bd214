/-
  ParseCase answers true at any text: with its letters outside texts as capitals it is read as the same statement, or refused alike.
  Conditions: none but the row's own; the listed variables hold what the program's text lays (the card ties them).
-/
import Derived.Test.YtkffomfbnbcgaaaGreatDoorZp11
import Derived.Test.YtkffomfbnbcgaaaGreatDoorCards
import Derived.Test.YtkffomfbnbcgaaaGreatDoorTie
import Derived.WalkKit
import Derived.ProofKit
import Derived.OpenShut
import Derived.ShutString
import Derived.ChangeOld
import Derived.Below
import Derived.Carry
import Derived.Deep.DeepHandedRow
import Derived.Deep.DeepWitnessRowRef
import Derived.Lib.LaidTab
namespace Go.Proofs.YtkffomfbnbcgaaaGreatDoor.parseCase
open Go.ChangeShapes Go.WideShapes Go.ChangeAt Go.RowKit
open Go.Joins
set_option linter.unusedVariables false

theorem own : ownKnob Tryz.prog.godebug = none := by kernel_rfl
theorem laidOut : laidOutB Tryz.prog = true := by kernel_rfl

set_option maxRecDepth 100000 in

set_option maxHeartbeats 8000000 in
theorem walk {H : Type} {enc : TypeId × Value → H} (base : Nat) (v0 : Value) (d0 : DataW H) (p0 : List MemPlace) (W : World)
    (o0 : Value.okWide Tryz.prog W .any base 9 v0) (h0 : DataW.Trod enc Tryz.prog W 0 (fun _ => true) true 9 v0 d0 p0)
    (hL : laidMetH Tryz.prog Rows.parseCaseRow.laid W) :
    Calls Tryz.prog 6 #[v0] W fun e w' => e = .returned (.bool true) ∧ Below W.heap.size W w' := by
  obtain ⟨s, rfl, hsz⟩ := open_str o0
  have hE := errr_of_laid hL
  have HE := Lib.hid hE
  have HS := Lib.hid (speaks13_any W hE)
  obtain ⟨N, r, hr⟩ := parseS_tot s
  have HR := Lib.hid hr
  clear hL hE o0 h0 hr
  go_enter Tryz.func6, Tryz.ntmps6
  go_wp2_with fail
  refine HS.out.mono ?_
  rintro e w0 ⟨rfl, b0⟩
  obtain ⟨cap, w1, hcv, hc1, hc2, hs1, hb1, hB1⟩ := conv_w s w0 hsz
  obtain ⟨B, hB⟩ : ∃ B, w0.heap.size = B := ⟨_, rfl⟩
  rw [hB] at hcv hB1
  obtain ⟨n, hn⟩ : ∃ n, s.size = n := ⟨_, rfl⟩
  rw [hn] at hcv hc1 hsz
  have hz0 : Hid (CsS w0 w1 B (sl s) false [] (sl s) n) := Lib.hid ⟨rfl, by rw [List.length_nil, Nat.zero_add, sl_length]; exact hn, hB1, hb1, Nat.le_of_eq hB, hb1.size⟩
  have B0 := Lib.hid b0
  have HCV := Lib.hid hcv
  clear b0 hb1 hB1 hs1 hB hn hcv
  have hcv := HCV.out
  go_wp2_with fail
  clear hcv HCV
  unfold maxLen at hsz hc2
  go_loopw [4, 16] (fun q i wr => ∃ (qb : Bool) (p r : List Nat), q = .bool qb ∧ i = .int .i64 (p.length : Int) ∧ Hid (CsS w0 wr B (sl s) qb p r n)) (fun _ i _ => n - (intOf i).toNat)
  case atStart => exact ⟨false, [], sl s, rfl, rfl, hz0⟩
  case round =>
    obtain ⟨qb, p, rs, rfl, rfl, HC⟩ := hrel
    clear hz0
    have hlen := HC.out.len
    obtain ⟨k, hk⟩ : ∃ k, p.length = k := ⟨_, rfl⟩
    cases rs with
    | cons x rs =>
      rw [List.length_cons, hk] at hlen
      have hkn : k < n := by omega
      have hki : (k : Int) < (n : Int) := by omega
      have w5' : IntKind.i64.wrap ((k : Int) + 1) = (k : Int) + 1 := by rw [IntKind.wrap_i64]; omega
      have hcx := HC.out.own.cell (i := p.length) (x := x) (by simp)
      have hfx := HC.out.own.frz (i := p.length) (by simp)
      have hxb : x < 256 := HC.out.own.2 x (by simp)
      have HG := Lib.hid (fun (q' : Bool) (h1 : q' = if x = 39 then !qb else qb) (h2 : x = if q' = true then x else uprL x) => HC.out.stay q' h1 h2)
      have HGG := Lib.hid (fun (q' : Bool) (y : Nat) (h1 : q' = if x = 39 then !qb else qb) (h2 : y = if q' = true then x else uprL x) (h3 : y < 256) => HC.out.go q' y h1 h2 h3)
      have HK := Lib.hid hk
      rw [hk] at hcx hfx ⊢
      clear hk hlen HC
      have fin : ∀ y : Nat, ((k : Int) + 1) = ((p ++ [y]).length : Int) := fun y => by rw [List.length_append, HK.out]; simp
      have FIN := Lib.hid fin
      clear fin
      by_cases hx : x = 39
      · subst hx
        have hup : uprL 39 = 39 := rfl
        have HU := Lib.hid hup
        clear hup
        cases qb with
        | false =>
          go_wp2_with fail
          refine ⟨⟨true, p ++ [39], rs, rfl, by rw [FIN.out 39], Lib.hid (HG.out true rfl rfl)⟩, by simp [intOf]; omega⟩
        | true =>
          go_wp2_with fail
          refine ⟨⟨false, p ++ [39], rs, rfl, by rw [FIN.out 39], Lib.hid (HG.out false rfl rfl)⟩, by simp [intOf]; omega⟩
      · have hx39 : ((x : Int) == 39) = false := by simp; omega
        have HX := Lib.hid hx
        cases qb with
        | true =>
          clear hx
          go_wp2_with fail
          refine ⟨⟨true, p ++ [x], rs, rfl, by rw [FIN.out x], Lib.hid (HG.out true (by rw [if_neg HX.out]) rfl)⟩, by simp [intOf]; omega⟩
        | false =>
          clear hx
          by_cases h97 : 97 ≤ x
          · have a97 : (97 : Int) ≤ (x : Int) := by omega
            by_cases h122 : x ≤ 122
            · have a122 : (x : Int) ≤ 122 := by omega
              have hw32 : IntKind.u8.wrap ((x : Int) - 32) = (x : Int) - 32 := by unfold IntKind.wrap; simp [IntKind.signed, IntKind.bits]; omega
              have hup : uprL x = x - 32 := by
                rcases uprL_cases x with ⟨h, -⟩ | ⟨_, _, e⟩
                · unfold smL at h; simp at h; omega
                · exact e
              have hcst : ((x - 32 : Nat) : Int) = (x : Int) - 32 := by omega
              have hgo := HGG.out false (x - 32) (by rw [if_neg HX.out]) (by rw [if_neg (by decide), hup]) (by omega)
              rw [HK.out, hcst] at hgo
              have HGO := Lib.hid hgo
              clear hgo hup hcst
              go_wp2_with fail
              refine ⟨⟨false, p ++ [x - 32], rs, rfl, by rw [FIN.out (x - 32)], HGO⟩, by simp [intOf]; omega⟩
            · have a122 : decide ((x : Int) ≤ 122) = false := by simp; omega
              have hup : uprL x = x := by
                rcases uprL_cases x with ⟨_, h⟩ | ⟨_, _, e⟩
                · exact h
                · omega
              have HU := Lib.hid hup
              clear hup
              go_wp2_with fail
              refine ⟨⟨false, p ++ [x], rs, rfl, by rw [FIN.out x], Lib.hid (HG.out false (by rw [if_neg HX.out]) (by rw [if_neg (by decide), HU.out]))⟩, by simp [intOf]; omega⟩
          · have a97 : decide ((97 : Int) ≤ (x : Int)) = false := by simp; omega
            have hup : uprL x = x := by
              rcases uprL_cases x with ⟨_, h⟩ | ⟨_, _, e⟩
              · exact h
              · omega
            have HU := Lib.hid hup
            clear hup
            go_wp2_with fail
            refine ⟨⟨false, p ++ [x], rs, rfl, by rw [FIN.out x], Lib.hid (HG.out false (by rw [if_neg HX.out]) (by rw [if_neg (by decide), HU.out]))⟩, by simp [intOf]; omega⟩
    | nil =>
      rw [List.length_nil, Nat.add_zero] at hlen
      have hlen' := hlen
      rw [hk] at hlen' ⊢
      clear hk
      obtain rfl : k = n := hlen'
      have heq := HC.out.eq
      rw [caseL, List.append_nil] at heq
      have hown := HC.out.own
      rw [List.append_nil] at hown
      have HB2 := Lib.hid (B0.out.trans (HC.out.bel.mono B0.out.size))
      have HW := Lib.hid hown
      obtain ⟨T, hT⟩ : ∃ T, strB p = T := ⟨_, rfl⟩
      have hslT : sl T = p := by rw [← hT]; exact sl_strB hown.2
      have HR2 := Lib.hid ((parseS_same (s := T) (t := s) (by rw [hslT, ← heq, case_toks]) N).trans HR.out)
      have HP1 := Lib.hid (parse_p s wr (HE.out.below HB2.out) N HR.out)
      have HLT := Lib.hid (And.intro hlen hT)
      clear hlen heq hown hT hslT HC
      go_wp2_with fail
      try go_at_call 13
      refine HP1.out.mono ?_
      rintro e w2 hpe
      obtain ⟨b2, x, rfl, hx, mx⟩ := hpe.form
      clear hpe HP1
      obtain ⟨c, hc⟩ : ∃ c, (outR r).2 = c := ⟨_, rfl⟩
      rw [hc]
      have HCC := Lib.hid hc
      obtain ⟨wz, hst, bz, bxz, mxz⟩ := put_st mx
      have HST := Lib.hid hst
      have b23 := b2.trans (bz.mono b2.size)
      have HBZ := Lib.hid (HB2.out.trans (b23.mono HB2.out.size))
      have hstr := (HW.out.below b23).str k cap HLT.out.1
      rw [HLT.out.2] at hstr
      have HSR := Lib.hid hstr
      have HP2 := Lib.hid (parse_p T wz (HE.out.below HBZ.out) N HR2.out)
      have HXX := Lib.hid (And.intro hx (And.intro bxz mxz))
      clear hc hst bz bxz mxz mx hx b2 b23 hstr
      go_wp2_with (first | (refine wpSt rfl _ _ rfl rfl rfl HST.out ?_; clear HST; have hstr := HSR.out))
      try go_at_call 13
      clear hstr
      refine HP2.out.mono ?_
      rintro e w3 hpe
      obtain ⟨b3, y, rfl, hy, my⟩ := hpe.form
      clear hpe HP2
      rw [HCC.out]
      obtain ⟨wy, hst, by3, bxy, mxy⟩ := put_st my
      have HST := Lib.hid hst
      have b34 := b3.trans (by3.mono b3.size)
      have HBY := Lib.hid (HBZ.out.trans (b34.mono HBZ.out.size))
      have HL1 := Lib.hid (ld_V (HXX.out.2.1.below b34))
      have HL2 := Lib.hid (ld_V bxy)
      have HQ := Lib.hid (whole_q (w := wy) x y (HXX.out.1.trans hy.symm) (XSt.Mem.frm (Frm.of_below (F := fun _ => False) b34) (fun _ _ e => e) HXX.out.2.2) mxy)
      clear hst by3 bxy mxy my hy b3 b34
      go_wp2_with (first | (refine wpSt rfl _ _ rfl rfl rfl HST.out ?_; clear HST) | (refine wpLdG rfl _ rfl rfl HL1.out ?_; clear HL1) | (refine wpLdG rfl _ rfl rfl HL2.out ?_; clear HL2))
      try go_at_call 15
      refine HQ.out.mono ?_
      rintro e w5 ⟨rfl, b5⟩
      have HF := Lib.hid (HBY.out.trans (b5.mono HBY.out.size))
      clear b5
      go_wp2_with fail
      go_ret
      exact ⟨rfl, HF.out⟩

/-- a world for the witness: the listed variables hold what is laid -/
noncomputable def laidWorld (os : Os) : World := lxWorld os
theorem laid_met (os : Os) : laidMetH Tryz.prog Rows.parseCaseRow.laid ((laidWorld os).forCall (fun _ _ => 0) ⟨#[], #[.string ByteArray.empty], []⟩).memory := by
  show laidMetH Tryz.prog lxLaid _
  rw [lx_nohandle]
  exact laidMet.of_heap (w := lxWorld os) rfl (lx_met os)
theorem reads (os : Os) {H : Type} (enc : TypeId × Value → H) : ∃ places, DataW.whole enc Tryz.prog ((laidWorld os).forCall (fun _ _ => 0) ⟨#[], #[.string ByteArray.empty], []⟩).memory Tryz.f6.params.toList Rows.parseCaseSpec.vars false (#[.string ByteArray.empty] : Array Value).toList 8 = some ([.lit (.string [])], [], places) :=
  ⟨[], by kernel_rfl⟩

set_option maxRecDepth 100000 in
theorem lifted (os : Os) (started : os.Started) (H : Type) (enc : TypeId × Value → H) (F : Stop.Interp) :
    ReturnsInHanded {} Tryz.checked os 6 .any ((OpenSpec.ofChange Rows.parseCaseSpec).preRow enc Tryz.prog Tryz.f6 Rows.parseCaseRow.domain false Rows.parseCaseRow.laid) (((OpenSpec.ofChange Rows.parseCaseSpec).at F).post enc Tryz.prog Tryz.f6 false true false false) := by
  obtain ⟨places, hx⟩ := reads os enc
  refine returnsInHanded_of_row (C := Tryz.checked) (s := (OpenSpec.ofChange Rows.parseCaseSpec)) own started (by kernel_rfl) Tryz.func6
    (witness_row_atRef (enc := enc) (C := Tryz.checked) false (laidWorld os) #[.string ByteArray.empty] rfl (by kernel_rfl) (by kernel_rfl) (by kernel_rfl)
      (OpenSpec.preRow_of_cond 8 hx (by kernel_rfl) (fun k hk => by cases hk) (by kernel_rfl) (laid_met os))) ?_
  intro W base args ds gs before hval0 hW _ hcond _ hL _ _
  have hval : ∀ (j : Nat) t v, Tryz.f6.params[j]? = some t → args[j]? = some v → Value.okWide Tryz.prog W .any base t v := hval0
  have hW' := hW
  obtain ⟨p, q, hA0, hV, rfl, hfz, hnd⟩ := hW
  have hA : DataW.TrodAll enc Tryz.prog W 0 (fun _ => true) true Tryz.f6.params.toList args.toList ds p := hA0
  rw [Tryz.params6] at hA hval
  obtain ⟨v0, vs0, d0, ds0, p0, q0, hargs, rfl, rfl, h0, r0⟩ := trodAll_cons hA
  obtain ⟨rfl, rfl, rfl⟩ := trodAll_nil r0
  obtain rfl : args = #[v0] := by cases args; simp_all
  obtain ⟨rfl, rfl⟩ := trodVars_none hV
  have lt0 : ∀ x ∈ p0, x.block < W.heap.size := by obtain ⟨m, hm⟩ := h0; exact DataW.trod_lt m _ _ _ hm
  refine (walk (enc := enc) base v0 d0 p0 W (hval 0 9 v0 rfl rfl) h0 hL).mono fun e W' ⟨he, bel⟩ => ?_
  subst he
  exact ⟨_, rfl, _, _, _, [], _, [], hW', trodAll_mk1 (shut_bool Tryz.underlying4 _), (trodAll_cons_mk (Below.trod laidOut (by kernel_rfl) (of_decide_eq_true (by kernel_rfl)) h0 bel lt0) trodAll_mk0), rfl, bel.frame _, fun h => by cases h⟩

theorem said : Rows.ParseCaseSaid :=
  OpenClaim.holds_of_cond 6 Tryz.f6 rfl rfl rfl rfl rfl rfl rfl ⟨rfl, rfl, rfl, rfl, rfl⟩ rfl rfl rfl rfl rfl (by kernel_rfl) Tryz.func6 (by kernel_rfl)
    (of_decide_eq_true (by kernel_rfl)) (by unfold Func.isWrapper; first | (rw [if_pos (by decide +kernel)]; kernel_rfl) | (rw [if_neg (by decide +kernel)]; exact ⟨rfl, rfl⟩))
    (fun os started H enc _ F => by rw [OpenClaim.pre_eq_preRow]; exact lifted os started H enc F)
theorem plain (f : FuncId) (fn : Func) (hf : Tryz.pinned.checked.prog.funcNamed "hasp/hasplaw13.ParseCase" = some f) (hfn : Tryz.pinned.checked.prog.funcs[f]? = some fn) :
    true = Tryz.pinned.checked.prog.looks [] ∧ ∀ (j : Nat) t, fn.params[j]? = some t → Tryz.pinned.checked.prog.wantsStandIn t = false := by
  obtain rfl : f = 6 := Option.some.inj ((show Tryz.prog.funcNamed "hasp/hasplaw13.ParseCase" = some 6 by kernel_rfl).symm.trans hf) |>.symm
  obtain rfl : fn = Tryz.f6 := (Option.some.inj (Tryz.func6.symm.trans hfn)).symm
  refine ⟨by kernel_rfl, fun j t ht => ?_⟩
  rw [Tryz.params6] at ht
  have hm : t ∈ ([9] : List TypeId) := by simpa using Array.mem_of_getElem? ht
  have hall : (([9] : List TypeId).all fun u => !Tryz.prog.wantsStandIn u) = true := by kernel_rfl
  exact (show Tryz.prog.wantsStandIn t = false by simpa using List.all_eq_true.1 hall t hm)

theorem proved : Rows.ParseCaseCardSaid :=
  Claim7.holds_tied_plain_at .later [] _ _ _ _ said (fun _ h => by cases h) (by kernel_rfl) (fun _ h => by cases h) parseCase_row_tie rfl ⟨rfl, rfl⟩ (by kernel_rfl) rfl plain (by kernel_rfl)
end Go.Proofs.YtkffomfbnbcgaaaGreatDoor.parseCase
