/-
  ParseBlanks answers true at any text and any byte: its tokens written with other blanks between are read as the same statement, or refused alike.
  Conditions: none but the row's own; the listed variables hold what the program's text lays (the card ties them).
-/
import Derived.Test.YtkffomfbnbcgaaaGreatDoorZp11
import Derived.Test.YtkffomfbnbcgaaaGreatDoorCards
import Derived.Test.YtkffomfbnbcgaaaGreatDoorTie
import Derived.WalkKit
import Derived.ProofKit
import Derived.OpenShut
import Derived.ShutString
import Derived.ChangeOld
import Derived.Below
import Derived.Carry
import Derived.Deep.DeepHandedRow
import Derived.Deep.DeepWitnessRowRef
import Derived.Lib.LaidTab
namespace Go.Proofs.YtkffomfbnbcgaaaGreatDoor.parseBlanks
open Go.ChangeShapes Go.WideShapes Go.ChangeAt Go.RowKit
open Go.Joins
set_option linter.unusedVariables false

theorem own : ownKnob Tryz.prog.godebug = none := by kernel_rfl
theorem laidOut : laidOutB Tryz.prog = true := by kernel_rfl

set_option maxRecDepth 100000 in

set_option maxHeartbeats 8000000 in
theorem walk {H : Type} {enc : TypeId × Value → H} (base : Nat) (v0 : Value) (d0 : DataW H) (p0 : List MemPlace) (v1 : Value) (d1 : DataW H) (p1 : List MemPlace) (W : World)
    (o0 : Value.okWide Tryz.prog W .any base 9 v0) (h0 : DataW.Trod enc Tryz.prog W 0 (fun _ => true) true 9 v0 d0 p0)
    (o1 : Value.okWide Tryz.prog W .any base 5 v1) (h1 : DataW.Trod enc Tryz.prog W 0 (fun _ => true) true 5 v1 d1 p1)
    (hL : laidMetH Tryz.prog Rows.parseBlanksRow.laid W) :
    Calls Tryz.prog 5 #[v0, v1] W fun e w' => e = .returned (.bool true) ∧ Below W.heap.size W w' := by
  obtain ⟨s, rfl, hsz⟩ := open_str o0
  obtain ⟨bl, rfl, hbl⟩ := open_u8 o1
  have hE := errr_of_laid hL
  have HE := Lib.hid hE
  have HS := Lib.hid (speaks13_any W hE)
  obtain ⟨N, r, hr⟩ := parseS_tot s
  have HR := Lib.hid hr
  clear hL hE o0 h0 o1 h1 hsz hr
  go_enter Tryz.func5, Tryz.ntmps5
  go_wp2_with fail
  refine HS.out.mono ?_
  rintro e w0 ⟨rfl, b0⟩
  have B0 := Lib.hid b0
  have HT1 := Lib.hid (rtokens_any s w0)
  clear b0
  go_wp2_with fail
  try go_at_call 16
  refine HT1.out.mono ?_
  rintro e w1 he1
  have hc1 : Below w0.heap.size w0 w1 ∧ ((∃ (v : Value) (er : Nat), 0 < er ∧ e = .returned (.tuple #[v, .int .i64 (er : Int)])) ∨ (∃ ts v, toksE (sl s) = .ok ts ∧ e = .returned (.tuple #[v, .int .i64 0]) ∧ OwT w1 w0.heap.size v ts)) := by
    unfold RTks at he1
    refine ⟨he1.1, ?_⟩
    have he1 := he1.2
    cases hx : toksE (sl s) with
    | error er => rw [hx] at he1; obtain ⟨v, h1, h2⟩ := he1; exact .inl ⟨v, er, toksE_err _ _ hx, h1⟩
    | ok ts => rw [hx] at he1; obtain ⟨v, h1, h2⟩ := he1; exact .inr ⟨ts, v, rfl, h1, h2⟩
  obtain ⟨b1, hc1⟩ := hc1
  have B1 := Lib.hid (B0.out.trans (b1.mono B0.out.size))
  clear he1 b1
  rcases hc1 with ⟨v0, er, hp1, rfl⟩ | ⟨ts, v1, hx1, rfl, o1⟩
  · have q1 : ((er : Int) != 0) = true := by simp; omega
    go_wp2_with fail
    go_ret
    exact ⟨rfl, B1.out⟩
  · obtain ⟨rt1, rl1, sl1, hlx⟩ := toks_right (sl_lt s) hx1
    obtain ⟨a1, c1, rfl, l1⟩ := o1.lta
    obtain ⟨n, hn⟩ : ∃ n, ts.length = n := ⟨_, rfl⟩
    rw [hn] at rl1 ⊢
    have HTX := Lib.hid hx1
    have HX := Lib.hid (And.intro l1 (And.intro rt1 (And.intro hlx hn)))
    clear hx1 o1 l1 rt1 hlx hn sl1
    go_wp2_with fail
    obtain ⟨m, hm⟩ : ∃ m, bl % 4 = m := ⟨_, rfl⟩
    have hm4 : m < 4 := by omega
    have hbits : bits .and .u8 (bl : Int) 3 = (m : Int) := by rw [and3 bl hbl, hm]
    obtain ⟨BS, hBS⟩ : ∃ BS : ByteArray, (⟨#[32, 9, 10, 13]⟩ : ByteArray) = BS := ⟨_, rfl⟩
    obtain ⟨e, he, hbe⟩ := bl_at m hm4
    have hbs : m < BS.size := by rw [← hBS]; exact hm4
    have hbi : (m : Int) < (BS.size : Int) := by omega
    have hbx : (BS[m]'hbs).toNat = e := by subst hBS; exact he
    rw [hBS]
    have HBE := Lib.hid hbe
    clear hbe he hBS hm hbl
    have hz0 : Hid (LtS w1 (w1.alloc (.cells #[] 5)) (.slice (some ⟨w1.heap.size, 0, none⟩) 0 0) [] 0 n) := Lib.hid ⟨⟨World.ownsRow_made w1 #[] 0 (Nat.le_refl _) (by decide) rfl, by simp⟩, Nat.zero_le _, (Below.refl _ _).alloc (Nat.le_refl _) _, by simp⟩
    go_loopw [8, 27] (fun v i wr => ∃ k : Nat, i = .int .i64 (k : Int) ∧ LtS w1 wr v (wrt2 e (ts.take k)) k n) (fun _ i _ => n - (intOf i).toNat)
    case atStart => exact ⟨0, rfl, hz0.out⟩
    case round =>
      obtain ⟨k, rfl, hs⟩ := hrel
      have hkl := hs.kl
      have HS := Lib.hid hs
      clear hs hz0
      by_cases hk : k < n
      · have hki : (k : Int) < (n : Int) := by omega
        have w5' : IntKind.i64.wrap ((k : Int) + 1) = (k : Int) + 1 := by rw [IntKind.wrap_i64]; omega
        have ht : ts[k]? = some (ts[k]'(by rw [HX.out.2.2.2]; exact hk)) := List.getElem?_eq_getElem _
        generalize ts[k]'(by rw [HX.out.2.2.2]; exact hk) = t at *
        obtain ⟨g, rfl, x0, x1, x2, x3⟩ := (HX.out.1.below HS.out.bel).at ht
        have HTK := Lib.hid ht
        have htR := HX.out.2.1 t (List.mem_of_getElem? ht)
        have hwo := word_ok t htR
        have hwo2 := wrt2_ok e HBE.out.2 (ts.take k) (fun x hx => HX.out.2.1 x (List.mem_of_mem_take hx))
        have HWD := Lib.hid (rwd_any t htR)
        obtain ⟨WT, hWT⟩ : ∃ WT, strB (wordT t) = WT := ⟨_, rfl⟩
        unfold Tkv at HWD
        rw [hWT] at HWD
        obtain ⟨T, hT⟩ : ∃ T, strB t.text = T := ⟨_, rfl⟩
        rw [hT] at HWD x1
        obtain ⟨kd, hkd⟩ : ∃ kd : Int, (t.kind : Int) = kd := ⟨_, rfl⟩
        obtain ⟨nn, hnn⟩ : ∃ nn : Int, (t.num : Int) = nn := ⟨_, rfl⟩
        obtain ⟨ss, hss⟩ : ∃ ss : Int, (t.scale : Int) = ss := ⟨_, rfl⟩
        rw [hkd, hnn, hss] at HWD
        rw [hkd] at x0
        rw [hnn] at x2
        rw [hss] at x3
        obtain ⟨acc, hacc⟩ : ∃ acc, wrt2 e (ts.take k) = acc := ⟨_, rfl⟩
        rw [hacc] at HS hwo2
        have hle1 : acc.length ≤ 1612000 := by
          have h1 := hwo2.1
          have h2 : (ts.take k).length ≤ k := by rw [List.length_take]; omega
          omega
        have HLE := Lib.hid hle1
        have hWTs : WT.size ≤ 402 := by rw [← hWT, strB_len]; exact hwo.1
        have hslW : sl WT = wordT t := by rw [← hWT]; exact sl_strB hwo.2
        have HSW := Lib.hid (And.intro hWTs hslW)
        have hsn : wrt2 e (ts.take (k + 1)) = acc ++ sl WT ++ [e] := by rw [List.take_add_one, ht, hslW, ← hacc]; exact wrt2_snoc e _ t
        have HSN := Lib.hid hsn
        clear ht htR hwo hwo2 hWT hT hkd hnn hss hle1 hWTs hslW hsn hacc
        go_wp2_with (first | (go_at_call 17; refine (HWD.out _).mono ?_; rintro x w3 ⟨rfl, b3⟩; obtain ⟨cap3, w4, hcv, hc1, hc2, hs4, b4, is4⟩ := conv_b WT w3 (by have := HSW.out.1; unfold maxLen; omega); have H4 := Lib.hid (And.intro (show Below wr.heap.size wr w3 from ((Below.refl _ _).alloc (Nat.le_refl _) _).trans (b3.mono (by simp))) (And.intro b4 (isB_news is4))); clear b3 b4 is4 hc1 hc2 hs4) | (at_builtin; refine wp_push rfl _ _ rfl w1.heap.size u8 acc rfl ((HS.out.own.below H4.out.1).below H4.out.2.1) ⟨w3.heap.size, 0, none⟩ WT.size cap3 (sl WT) rfl (sl_length WT) H4.out.2.2 (by have := HLE.out; have := HSW.out.1; omega) (by have h1 := H4.out.1.size; have h2 := H4.out.2.1.size; have h3 := HS.out.sz; omega) ?_; intro v5 w5 own5 gr5; have HX5 := Lib.hid (And.intro own5 gr5); clear own5 gr5 hcv) | (at_builtin; refine wp_push rfl _ _ rfl w1.heap.size v5 (acc ++ sl WT) rfl (HX5.out.1.alloc _) ⟨w5.heap.size, 0, none⟩ 1 1 [e] rfl rfl (news1' w5 e _ rfl) (by have := HLE.out; have := HSW.out.1; rw [List.length_append, sl_length]; omega) (by have h1 := H4.out.1.size; have h2 := H4.out.2.1.size; have h3 := HS.out.sz; have h4 := HX5.out.2.size; simp; omega) ?_; intro v6 w6 own6 gr6; have HX6 := Lib.hid (And.intro own6 gr6); clear own6 gr6))
        have hb4 : Below w1.heap.size w1 w4 := by
          have h1 := H4.out.1.size
          have h3 := HS.out.sz
          exact (HS.out.bel.trans (H4.out.1.mono h3)).trans (H4.out.2.1.mono (by omega))
        have hb5 : Below w1.heap.size w1 w5 := hb4.grown HX5.out.2 hb4.size (fun g hg => (HS.out.own.lt g hg).1)
        have hb5' : Below w1.heap.size w1 (w5.alloc (.cells #[.int .u8 (e : Int)] 5)) := hb5.alloc hb5.size _
        have hb6 : Below w1.heap.size w1 w6 := hb5'.grown HX6.out.2 hb5'.size (fun g hg => (HX5.out.1.lt g hg).1)
        refine ⟨⟨k + 1, by congr 1, ⟨by rw [HSN.out]; exact HX6.out.1, by omega, hb6, hb6.size⟩⟩, by simp [intOf]; omega⟩
      · have hki : decide ((k : Int) < (n : Int)) = false := by simp; omega
        obtain rfl : k = n := by omega
        obtain ⟨B, hB⟩ : ∃ B, wrt2 e ts = B := ⟨_, rfl⟩
        have hts : ts.take k = ts := List.take_of_length_le (by rw [HX.out.2.2.2]; exact Nat.le_refl _)
        have hown := HS.out.own
        rw [hts, hB] at hown
        have hwk := (wrt2_ok e HBE.out.2 ts HX.out.2.1).2
        rw [hB] at hwk
        have hslB := sl_strB hwk
        have HB2 := Lib.hid (B1.out.trans (HS.out.bel.mono B1.out.size))
        obtain ⟨g, cap, rfl, -, -, -⟩ := hown.form
        have HW := Lib.hid hown
        obtain ⟨L, hL⟩ : ∃ L, B.length = L := ⟨_, rfl⟩
        rw [hL] at HW HS ⊢
        by_cases hlong : L > 4000
        · have k1 : decide ((4000 : Int) < (L : Int)) = true := by simp; omega
          clear hwk hslB hown hL hts hB
          go_wp2_with fail
          go_ret
          exact ⟨rfl, HB2.out⟩
        · have k1 : decide ((4000 : Int) < (L : Int)) = false := by simp; omega
          obtain ⟨T, hT⟩ : ∃ T, strB B = T := ⟨_, rfl⟩
          have hok : toksE (sl T) = .ok ts := by rw [← hT, hslB, ← hB]; exact toks_wrt2 HBE.out.1 HX.out.2.2.1 (by rw [hB, hL]; omega)
          have HR2 := Lib.hid ((parseS_same (s := T) (t := s) (by rw [hok, HTX.out]) N).trans HR.out)
          have HP1 := Lib.hid (parse_p s wr (HE.out.below HB2.out) N HR.out)
          have HLT := Lib.hid hT
          clear hwk hslB hown hL hts hB hT hok
          go_wp2_with fail
          try go_at_call 13
          refine HP1.out.mono ?_
          rintro e w2 hpe
          obtain ⟨b2, x, rfl, hx, mx⟩ := hpe.form
          clear hpe HP1
          obtain ⟨c, hc⟩ : ∃ c, (outR r).2 = c := ⟨_, rfl⟩
          rw [hc]
          have HCC := Lib.hid hc
          obtain ⟨wz, hst, bz, bxz, mxz⟩ := put_st mx
          have HST := Lib.hid hst
          have b23 := b2.trans (bz.mono b2.size)
          have HBZ := Lib.hid (HB2.out.trans (b23.mono HB2.out.size))
          have hstr := str_own (HW.out.below b23)
          rw [HLT.out] at hstr
          have HSR := Lib.hid hstr
          have HP2 := Lib.hid (parse_p T wz (HE.out.below HBZ.out) N HR2.out)
          have HXX := Lib.hid (And.intro hx (And.intro bxz mxz))
          clear hc hst bz bxz mxz mx hx b2 b23 hstr
          go_wp2_with (first | (refine wpSt rfl _ _ rfl rfl rfl HST.out ?_; clear HST; have hstr := HSR.out))
          try go_at_call 13
          clear hstr
          refine HP2.out.mono ?_
          rintro e w3 hpe
          obtain ⟨b3, y, rfl, hy, my⟩ := hpe.form
          clear hpe HP2
          rw [HCC.out]
          obtain ⟨wy, hst, by3, bxy, mxy⟩ := put_st my
          have HST := Lib.hid hst
          have b34 := b3.trans (by3.mono b3.size)
          have HBY := Lib.hid (HBZ.out.trans (b34.mono HBZ.out.size))
          have HL1 := Lib.hid (ld_V (HXX.out.2.1.below b34))
          have HL2 := Lib.hid (ld_V bxy)
          have HQ := Lib.hid (whole_q (w := wy) x y (HXX.out.1.trans hy.symm) (XSt.Mem.frm (Frm.of_below (F := fun _ => False) b34) (fun _ _ e => e) HXX.out.2.2) mxy)
          clear hst by3 bxy mxy my hy b3 b34
          go_wp2_with (first | (refine wpSt rfl _ _ rfl rfl rfl HST.out ?_; clear HST) | (refine wpLdG rfl _ rfl rfl HL1.out ?_; clear HL1) | (refine wpLdG rfl _ rfl rfl HL2.out ?_; clear HL2))
          try go_at_call 15
          refine HQ.out.mono ?_
          rintro e w5 ⟨rfl, b5⟩
          have HF := Lib.hid (HBY.out.trans (b5.mono HBY.out.size))
          clear b5
          go_wp2_with fail
          go_ret
          exact ⟨rfl, HF.out⟩

/-- a world for the witness: the listed variables hold what is laid -/
noncomputable def laidWorld (os : Os) : World := lxWorld os
theorem laid_met (os : Os) : laidMetH Tryz.prog Rows.parseBlanksRow.laid ((laidWorld os).forCall (fun _ _ => 0) ⟨#[], #[.string ByteArray.empty, .int .u8 0], []⟩).memory := by
  show laidMetH Tryz.prog lxLaid _
  rw [lx_nohandle]
  exact laidMet.of_heap (w := lxWorld os) rfl (lx_met os)
theorem reads (os : Os) {H : Type} (enc : TypeId × Value → H) : ∃ places, DataW.whole enc Tryz.prog ((laidWorld os).forCall (fun _ _ => 0) ⟨#[], #[.string ByteArray.empty, .int .u8 0], []⟩).memory Tryz.f5.params.toList Rows.parseBlanksSpec.vars false (#[.string ByteArray.empty, .int .u8 0] : Array Value).toList 8 = some ([.lit (.string []), .lit (.int .u8 0)], [], places) :=
  ⟨[], by kernel_rfl⟩

set_option maxRecDepth 100000 in
theorem lifted (os : Os) (started : os.Started) (H : Type) (enc : TypeId × Value → H) (F : Stop.Interp) :
    ReturnsInHanded {} Tryz.checked os 5 .any ((OpenSpec.ofChange Rows.parseBlanksSpec).preRow enc Tryz.prog Tryz.f5 Rows.parseBlanksRow.domain false Rows.parseBlanksRow.laid) (((OpenSpec.ofChange Rows.parseBlanksSpec).at F).post enc Tryz.prog Tryz.f5 false true false false) := by
  obtain ⟨places, hx⟩ := reads os enc
  refine returnsInHanded_of_row (C := Tryz.checked) (s := (OpenSpec.ofChange Rows.parseBlanksSpec)) own started (by kernel_rfl) Tryz.func5
    (witness_row_atRef (enc := enc) (C := Tryz.checked) false (laidWorld os) #[.string ByteArray.empty, .int .u8 0] rfl (by kernel_rfl) (by kernel_rfl) (by kernel_rfl)
      (OpenSpec.preRow_of_cond 8 hx (by kernel_rfl) (fun k hk => by cases hk) (by kernel_rfl) (laid_met os))) ?_
  intro W base args ds gs before hval0 hW _ hcond _ hL _ _
  have hval : ∀ (j : Nat) t v, Tryz.f5.params[j]? = some t → args[j]? = some v → Value.okWide Tryz.prog W .any base t v := hval0
  have hW' := hW
  obtain ⟨p, q, hA0, hV, rfl, hfz, hnd⟩ := hW
  have hA : DataW.TrodAll enc Tryz.prog W 0 (fun _ => true) true Tryz.f5.params.toList args.toList ds p := hA0
  rw [Tryz.params5] at hA hval
  obtain ⟨v0, vs0, d0, ds0, p0, q0, hargs, rfl, rfl, h0, r0⟩ := trodAll_cons hA
  obtain ⟨v1, vs1, d1, ds1, p1, q1, rfl, rfl, rfl, h1, r1⟩ := trodAll_cons r0
  obtain ⟨rfl, rfl, rfl⟩ := trodAll_nil r1
  obtain rfl : args = #[v0, v1] := by cases args; simp_all
  obtain ⟨rfl, rfl⟩ := trodVars_none hV
  have lt0 : ∀ x ∈ p0, x.block < W.heap.size := by obtain ⟨m, hm⟩ := h0; exact DataW.trod_lt m _ _ _ hm
  have lt1 : ∀ x ∈ p1, x.block < W.heap.size := by obtain ⟨m, hm⟩ := h1; exact DataW.trod_lt m _ _ _ hm
  refine (walk (enc := enc) base v0 d0 p0 v1 d1 p1 W (hval 0 9 v0 rfl rfl) h0 (hval 1 5 v1 rfl rfl) h1 hL).mono fun e W' ⟨he, bel⟩ => ?_
  subst he
  exact ⟨_, rfl, _, _, _, [], _, [], hW', trodAll_mk1 (shut_bool Tryz.underlying4 _), (trodAll_cons_mk (Below.trod laidOut (by kernel_rfl) (of_decide_eq_true (by kernel_rfl)) h0 bel lt0) (trodAll_cons_mk (Below.trod laidOut (by kernel_rfl) (of_decide_eq_true (by kernel_rfl)) h1 bel lt1) trodAll_mk0)), rfl, bel.frame _, fun h => by cases h⟩

theorem said : Rows.ParseBlanksSaid :=
  OpenClaim.holds_of_cond 5 Tryz.f5 rfl rfl rfl rfl rfl rfl rfl ⟨rfl, rfl, rfl, rfl, rfl⟩ rfl rfl rfl rfl rfl (by kernel_rfl) Tryz.func5 (by kernel_rfl)
    (of_decide_eq_true (by kernel_rfl)) (by unfold Func.isWrapper; first | (rw [if_pos (by decide +kernel)]; kernel_rfl) | (rw [if_neg (by decide +kernel)]; exact ⟨rfl, rfl⟩))
    (fun os started H enc _ F => by rw [OpenClaim.pre_eq_preRow]; exact lifted os started H enc F)
theorem plain (f : FuncId) (fn : Func) (hf : Tryz.pinned.checked.prog.funcNamed "hasp/hasplaw13.ParseBlanks" = some f) (hfn : Tryz.pinned.checked.prog.funcs[f]? = some fn) :
    true = Tryz.pinned.checked.prog.looks [] ∧ ∀ (j : Nat) t, fn.params[j]? = some t → Tryz.pinned.checked.prog.wantsStandIn t = false := by
  obtain rfl : f = 5 := Option.some.inj ((show Tryz.prog.funcNamed "hasp/hasplaw13.ParseBlanks" = some 5 by kernel_rfl).symm.trans hf) |>.symm
  obtain rfl : fn = Tryz.f5 := (Option.some.inj (Tryz.func5.symm.trans hfn)).symm
  refine ⟨by kernel_rfl, fun j t ht => ?_⟩
  rw [Tryz.params5] at ht
  have hm : t ∈ ([9, 5] : List TypeId) := by simpa using Array.mem_of_getElem? ht
  have hall : (([9, 5] : List TypeId).all fun u => !Tryz.prog.wantsStandIn u) = true := by kernel_rfl
  exact (show Tryz.prog.wantsStandIn t = false by simpa using List.all_eq_true.1 hall t hm)

theorem proved : Rows.ParseBlanksCardSaid :=
  Claim7.holds_tied_plain_at .later [] _ _ _ _ said (fun _ h => by cases h) (by kernel_rfl) (fun _ h => by cases h) parseBlanks_row_tie rfl ⟨rfl, rfl⟩ (by kernel_rfl) rfl plain (by kernel_rfl)
end Go.Proofs.YtkffomfbnbcgaaaGreatDoor.parseBlanks
