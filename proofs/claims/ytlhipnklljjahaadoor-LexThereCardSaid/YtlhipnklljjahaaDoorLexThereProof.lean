/-
  LexThere answers true at any text and any byte: the tokens of the text, written one behind the other with a blank between, are these tokens again.
  Conditions: none but the row's own; the listed variables hold what the program's text lays (the card ties them).
-/
import Derived.Test.YtlhipnklljjahaaDoorLx30
import Derived.Test.YtlhipnklljjahaaDoorLx31
import Derived.Test.YtlhipnklljjahaaDoorLx37
import Derived.Test.YtlhipnklljjahaaDoorCards
import Derived.Test.YtlhipnklljjahaaDoorTie
import Derived.WalkKit
import Derived.ProofKit
import Derived.OpenShut
import Derived.ShutString
import Derived.ChangeOld
import Derived.Below
import Derived.Carry
import Derived.Deep.DeepHandedRow
import Derived.Deep.DeepWitnessRowRef
import Derived.Lib.LaidTab
namespace Go.Proofs.YtlhipnklljjahaaDoor.lexThere
open Go.ChangeShapes Go.WideShapes Go.ChangeAt Go.RowKit
open Go.Joins
set_option linter.unusedVariables false

theorem own : ownKnob Tryd.prog.godebug = none := by kernel_rfl
theorem laidOut : laidOutB Tryd.prog = true := by kernel_rfl

set_option maxRecDepth 100000 in

set_option maxHeartbeats 4000000 in
theorem walk {H : Type} {enc : TypeId × Value → H} (base : Nat) (v0 : Value) (d0 : DataW H) (p0 : List MemPlace) (v1 : Value) (d1 : DataW H) (p1 : List MemPlace) (W : World)
    (o0 : Value.okWide Tryd.prog W .any base 9 v0) (h0 : DataW.Trod enc Tryd.prog W 0 (fun _ => true) true 9 v0 d0 p0)
    (o1 : Value.okWide Tryd.prog W .any base 5 v1) (h1 : DataW.Trod enc Tryd.prog W 0 (fun _ => true) true 5 v1 d1 p1)
    (hL : laidMetH Tryd.prog Rows.lexThereRow.laid W) :
    Calls Tryd.prog 3 #[v0, v1] W fun e w' => e = .returned (.bool true) ∧ Below W.heap.size W w' := by
  obtain ⟨s, rfl, hsz⟩ := open_str o0
  obtain ⟨bl, rfl, hbl⟩ := open_u8 o1
  have hE := errr_of_laid hL
  have HE := Lib.hid hE
  have HS := Lib.hid (speaks12_any W hE)
  clear hL hE o0 h0 o1 h1 hsz
  go_enter Tryd.func3, Tryd.ntmps3
  go_wp2_with fail
  refine HS.out.mono ?_
  rintro e w0 ⟨rfl, b0⟩
  have B0 := Lib.hid b0
  have HE0 := Lib.hid (HE.out.below b0)
  have HT1 := Lib.hid (tokens_any s w0 (HE.out.below b0))
  clear b0
  go_wp2_with fail
  try go_at_call 5
  refine HT1.out.mono ?_
  rintro e w1 ⟨b1, he1⟩
  have B1 := Lib.hid (B0.out.trans (b1.mono B0.out.size))
  have HE1 := Lib.hid (HE0.out.below b1)
  clear b1
  have hc1 : (∃ er : Nat, 0 < er ∧ e = .returned (.tuple #[.slice none 0 0, .int .i64 (er : Int)])) ∨ (∃ ts v, toksE (sl s) = .ok ts ∧ e = .returned (.tuple #[v, .int .i64 0]) ∧ OwT w1 w0.heap.size v ts) := by
    cases hx : toksE (sl s) with
    | error er => rw [hx] at he1; exact .inl ⟨er, toksE_err _ _ hx, he1⟩
    | ok ts => rw [hx] at he1; obtain ⟨v, h1, h2⟩ := he1; exact .inr ⟨ts, v, rfl, h1, h2⟩
  clear he1
  rcases hc1 with ⟨er, hp1, rfl⟩ | ⟨ts, v1, hx1, rfl, o1⟩
  · have q1 : ((er : Int) != 0) = true := by simp; omega
    go_wp2_with fail
    go_ret
    exact ⟨rfl, B1.out⟩
  · obtain ⟨rt1, rl1, sl1, hlx⟩ := toks_right (sl_lt s) hx1
    obtain ⟨a1, c1, rfl, l1⟩ := o1.lta
    obtain ⟨n, hn⟩ : ∃ n, ts.length = n := ⟨_, rfl⟩
    rw [hn] at rl1 ⊢
    have HX := Lib.hid (And.intro l1 (And.intro rt1 (And.intro hlx hn)))
    clear hx1 o1 l1 rt1 hlx hn sl1
    go_wp2_with fail
    obtain ⟨m, hm⟩ : ∃ m, bl % 4 = m := ⟨_, rfl⟩
    have hm4 : m < 4 := by omega
    have hbits : bits .and .u8 (bl : Int) 3 = (m : Int) := by rw [and3 bl hbl, hm]
    obtain ⟨BS, hBS⟩ : ∃ BS : ByteArray, (⟨#[32, 9, 10, 13]⟩ : ByteArray) = BS := ⟨_, rfl⟩
    obtain ⟨e, he, hbe⟩ := bl_at m hm4
    have hbs : m < BS.size := by rw [← hBS]; exact hm4
    have hbi : (m : Int) < (BS.size : Int) := by omega
    have hbx : (BS[m]'hbs).toNat = e := by subst hBS; exact he
    rw [hBS]
    have HBE := Lib.hid hbe
    clear hbe he hBS hm hbl
    have hz0 : Hid (LtS w1 (w1.alloc (.cells #[] 5)) (.slice (some ⟨w1.heap.size, 0, none⟩) 0 0) [] 0 n) := Lib.hid ⟨⟨World.ownsRow_made w1 #[] 0 (Nat.le_refl _) (by decide) rfl, by simp⟩, Nat.zero_le _, (Below.refl _ _).alloc (Nat.le_refl _) _, by simp⟩
    go_loopw [8, 28] (fun v i wr => ∃ k : Nat, i = .int .i64 (k : Int) ∧ LtS w1 wr v (wrt e (ts.take k)) k n) (fun _ i _ => n - (intOf i).toNat)
    case atStart => exact ⟨0, rfl, hz0.out⟩
    case round =>
      obtain ⟨k, rfl, hs⟩ := hrel
      have hkl := hs.kl
      have HS := Lib.hid hs
      clear hs hz0
      by_cases hk : k < n
      · have hki : (k : Int) < (n : Int) := by omega
        have w5' : IntKind.i64.wrap ((k : Int) + 1) = (k : Int) + 1 := by rw [IntKind.wrap_i64]; omega
        have ht : ts[k]? = some (ts[k]'(by rw [HX.out.2.2.2]; exact hk)) := List.getElem?_eq_getElem _
        generalize ts[k]'(by rw [HX.out.2.2.2]; exact hk) = t at *
        obtain ⟨g, rfl, x0, x1, x2, x3⟩ := (HX.out.1.below HS.out.bel).at ht
        have HTK := Lib.hid ht
        have htR := HX.out.2.1 t (List.mem_of_getElem? ht)
        have hwo := word_ok t htR
        have HWO := Lib.hid (And.intro hwo (wrt_ok e HBE.out.2 (ts.take k) (fun x hx => HX.out.2.1 x (List.mem_of_mem_take hx))))
        have HWD := Lib.hid (rwd_any t htR)
        obtain ⟨WT, hWT⟩ : ∃ WT, strB (wordT t) = WT := ⟨_, rfl⟩
        unfold Tkv at HWD
        rw [hWT] at HWD
        have HWT := Lib.hid hWT
        obtain ⟨T, hT⟩ : ∃ T, strB t.text = T := ⟨_, rfl⟩
        rw [hT] at HWD x1
        obtain ⟨kd, hkd⟩ : ∃ kd : Int, (t.kind : Int) = kd := ⟨_, rfl⟩
        obtain ⟨nn, hnn⟩ : ∃ nn : Int, (t.num : Int) = nn := ⟨_, rfl⟩
        obtain ⟨ss, hss⟩ : ∃ ss : Int, (t.scale : Int) = ss := ⟨_, rfl⟩
        rw [hkd, hnn, hss] at HWD
        rw [hkd] at x0
        rw [hnn] at x2
        rw [hss] at x3
        obtain ⟨W2, hW2⟩ : ∃ W2, wr.alloc (.cells #[.int .i64 kd, .string T, .int .i64 nn, .int .i64 ss] 29) = W2 := ⟨_, rfl⟩
        have b2 : Below wr.heap.size wr W2 := by rw [← hW2]; exact (Below.refl _ _).alloc (Nat.le_refl _) _
        have n2 : TBox W2 wr.heap.size kd nn ss T := by rw [← hW2]; exact heap_alloc_new wr (.cells #[.int .i64 kd, .string T, .int .i64 nn, .int .i64 ss] 29)
        have H2 := Lib.hid (And.intro b2 n2)
        have s2 : W2.heap.size = wr.heap.size + 1 := by rw [← hW2]; simp
        have HS2 := Lib.hid s2
        have HW2 := Lib.hid hW2
        have own2 : OwB W2 w1.heap.size u8 (wrt e (ts.take k)) := HS.out.own.below b2
        have HO2 := Lib.hid own2
        have hle1 : (wrt e (ts.take k)).length ≤ 1612000 := by
          have h1 := HWO.out.2.1
          have h2 : (ts.take k).length ≤ k := by rw [List.length_take]; omega
          omega
        have HLE := Lib.hid hle1
        have hWTs : WT.size ≤ 402 := by rw [← hWT, strB_len]; exact hwo.1
        have hslW : sl WT = wordT t := by rw [← hWT]; exact sl_strB hwo.2
        have HSW := Lib.hid (And.intro hWTs hslW)
        have hsn : wrt e (ts.take (k + 1)) = wrt e (ts.take k) ++ [e] ++ sl WT := by rw [List.take_add_one, ht, hslW]; exact wrt_snoc e _ t
        have HSN := Lib.hid hsn
        have HZ := Lib.hid (show w1.heap.size ≤ (W2.alloc (.cells #[.int .u8 (e : Int)] 5)).heap.size by have := HS.out.sz; have := HS2.out; simp; omega)
        clear ht htR hwo hWT hT hkd hnn hss b2 n2 hW2 s2 own2 hle1 hWTs hslW hsn
        go_wp2_with (first | (at_builtin; rw [HW2.out]; refine wp_push rfl _ _ rfl w1.heap.size u8 (wrt e (ts.take k)) rfl (HO2.out.alloc _) ⟨wr.heap.size + 1, 0, none⟩ 1 1 [e] rfl rfl (by rw [← HS2.out]; exact news1' W2 e _ rfl) (by have := HLE.out; omega) HZ.out ?_; intro v2 w2 own2 gr2; have HX2 := Lib.hid (And.intro own2 (And.intro (((HS.out.bel.trans (H2.out.1.mono HS.out.sz)).alloc (by have := HS.out.sz; have := HS2.out; omega) (.cells #[.int .u8 (e : Int)] 5)).grown gr2 HZ.out (fun g hg => by have := (HO2.out.lt g hg).1; omega)) (And.intro ((H2.out.2.below ((Below.refl _ _).alloc (Nat.le_refl _) (.cells #[.int .u8 (e : Int)] 5))).grown gr2 (fun g hg => by have := (HS.out.own.lt g hg).2; omega)) gr2.size))); obtain ⟨⟨z0, z1, z2, z3⟩, _⟩ := HX2.out.2.2.1.cells; clear own2 gr2)  | (go_at_call 6; refine (HWD.out w2).mono ?_; rintro x w3 ⟨rfl, b3⟩; obtain ⟨cap3, w4, hcv, hc1, hc2, hs4, b4, is4⟩ := conv_b WT w3 (by have := HSW.out.1; unfold maxLen; omega); have H4 := Lib.hid (And.intro b3 (And.intro b4 (isB_news is4))); clear b3 b4 is4 hc1 hc2 hs4)  | (at_builtin; refine wp_push rfl _ _ rfl w1.heap.size v2 (wrt e (ts.take k) ++ [e]) rfl ((HX2.out.1.below H4.out.1).below H4.out.2.1) ⟨w3.heap.size, 0, none⟩ WT.size cap3 (sl WT) rfl (sl_length WT) H4.out.2.2 (by have := HLE.out; have := HSW.out.1; simp; omega) (by have h1 := H4.out.1.size; have h2 := H4.out.2.1.size; have h3 := HZ.out; have h4 := HX2.out.2.2.2; omega) ?_; intro v5 w5 own5 gr5; have HX5 := Lib.hid (And.intro own5 gr5); clear own5 gr5))
        have hb4 : Below w1.heap.size w1 w4 := by
          have h3 := HZ.out
          have h4 := HX2.out.2.2.2
          have h1 := H4.out.1.size
          exact (HX2.out.2.1.trans (H4.out.1.mono (by omega))).trans (H4.out.2.1.mono (by omega))
        have hz4 : w1.heap.size ≤ w4.heap.size := hb4.size
        refine ⟨⟨k + 1, by congr 1, ⟨by rw [HSN.out]; exact HX5.out.1, by omega, hb4.grown HX5.out.2 hz4 (fun g hg => (HX2.out.1.lt g hg).1), Nat.le_trans hz4 HX5.out.2.size⟩⟩, by simp [intOf]; omega⟩
      · have hki : decide ((k : Int) < (n : Int)) = false := by simp; omega
        obtain rfl : k = n := by omega
        obtain ⟨B, hB⟩ : ∃ B, wrt e ts = B := ⟨_, rfl⟩
        have hts : ts.take k = ts := List.take_of_length_le (by rw [HX.out.2.2.2]; exact Nat.le_refl _)
        have hown := HS.out.own
        rw [hts, hB] at hown
        have hwk := (wrt_ok e HBE.out.2 ts HX.out.2.1).2
        rw [hB] at hwk
        have hslB := sl_strB hwk
        have HBX := Lib.hid (B1.out.trans (HS.out.bel.mono B1.out.size))
        have HT2 := Lib.hid (tokens_any (strB B) wr (HE1.out.below HS.out.bel))
        rw [hslB] at HT2
        have HL2 := Lib.hid (HX.out.1.below HS.out.bel)
        have hstr := str_own hown
        obtain ⟨g, cap, rfl, -, -, -⟩ := hown.form
        obtain ⟨S, hS⟩ : ∃ S, strB B = S := ⟨_, rfl⟩
        obtain ⟨L, hL⟩ : ∃ L, B.length = L := ⟨_, rfl⟩
        rw [hS] at HT2 hstr
        rw [hL] at hstr HS ⊢
        by_cases hlong : L > 4000
        · have k1 : decide ((4000 : Int) < (L : Int)) = true := by simp; omega
          clear hwk hslB hown hS hL hts hB
          go_wp2_with fail
          try go_at_call 5
          refine HT2.out.mono ?_
          rintro x w2 ⟨b2, he2⟩
          have B2 := Lib.hid (HBX.out.trans (b2.mono HBX.out.size))
          have hform : ∃ a n cap q, x = .returned (.tuple #[.slice a n cap, .int .i64 q]) := by
            cases hx : toksE B with
            | error er => rw [hx] at he2; exact ⟨_, _, _, _, he2⟩
            | ok ts =>
              rw [hx] at he2
              obtain ⟨v, he, o⟩ := he2
              obtain ⟨a, cap, rfl, _⟩ := o.form
              exact ⟨_, _, _, _, he⟩
          obtain ⟨a, n, cap, q, rfl⟩ := hform
          clear he2 b2
          go_wp2_with fail
          go_ret
          exact ⟨rfl, B2.out⟩
        · have k1 : decide ((4000 : Int) < (L : Int)) = false := by simp; omega
          have hok : toksE B = .ok ts := by rw [← hB]; exact toks_wrt HBE.out.1 HX.out.2.2.1 (by rw [hB, hL]; omega)
          rw [hok] at HT2
          clear hwk hslB hown hS hL hts hB hok
          go_wp2_with fail
          try go_at_call 5
          refine HT2.out.mono ?_
          rintro x w2 ⟨b2, v2, rfl, o2⟩
          have B2 := Lib.hid (HBX.out.trans (b2.mono HBX.out.size))
          obtain ⟨a2, c2, rfl, l2⟩ := o2.lta
          have hsm := rsame_any w2 ts ts a1 a2 c1 c2 (HL2.out.below b2) l2 HX.out.2.1 HX.out.2.1 (by rw [HX.out.2.2.2]; omega) (by rw [HX.out.2.2.2]; omega)
          rw [decide_eq_true rfl, HX.out.2.2.2] at hsm
          rw [HX.out.2.2.2]
          have HSM := Lib.hid hsm
          clear hsm b2 o2 l2
          go_wp2_with fail
          try go_at_call 7
          refine HSM.out.mono ?_
          rintro x w3 ⟨rfl, b3⟩
          have B3 := Lib.hid (B2.out.trans (b3.mono B2.out.size))
          clear b3
          go_wp2_with fail
          go_ret
          exact ⟨rfl, B3.out⟩

/-- a world for the witness: the listed variables hold what is laid -/
noncomputable def laidWorld (os : Os) : World := lxWorld os
theorem laid_met (os : Os) : laidMetH Tryd.prog Rows.lexThereRow.laid ((laidWorld os).forCall (fun _ _ => 0) ⟨#[], #[.string ByteArray.empty, .int .u8 0], []⟩).memory := by
  show laidMetH Tryd.prog lxLaid _
  rw [lx_nohandle]
  exact laidMet.of_heap (w := lxWorld os) rfl (lx_met os)
theorem reads (os : Os) {H : Type} (enc : TypeId × Value → H) : ∃ places, DataW.whole enc Tryd.prog ((laidWorld os).forCall (fun _ _ => 0) ⟨#[], #[.string ByteArray.empty, .int .u8 0], []⟩).memory Tryd.f3.params.toList Rows.lexThereSpec.vars false (#[.string ByteArray.empty, .int .u8 0] : Array Value).toList 8 = some ([.lit (.string []), .lit (.int .u8 0)], [], places) :=
  ⟨[], by kernel_rfl⟩

set_option maxRecDepth 100000 in
theorem lifted (os : Os) (started : os.Started) (H : Type) (enc : TypeId × Value → H) (F : Stop.Interp) :
    ReturnsInHanded {} Tryd.checked os 3 .any ((OpenSpec.ofChange Rows.lexThereSpec).preRow enc Tryd.prog Tryd.f3 Rows.lexThereRow.domain false Rows.lexThereRow.laid) (((OpenSpec.ofChange Rows.lexThereSpec).at F).post enc Tryd.prog Tryd.f3 false true false false) := by
  obtain ⟨places, hx⟩ := reads os enc
  refine returnsInHanded_of_row (C := Tryd.checked) (s := (OpenSpec.ofChange Rows.lexThereSpec)) own started (by kernel_rfl) Tryd.func3
    (witness_row_atRef (enc := enc) (C := Tryd.checked) false (laidWorld os) #[.string ByteArray.empty, .int .u8 0] rfl (by kernel_rfl) (by kernel_rfl) (by kernel_rfl)
      (OpenSpec.preRow_of_cond 8 hx (by kernel_rfl) (fun k hk => by cases hk) (by kernel_rfl) (laid_met os))) ?_
  intro W base args ds gs before hval0 hW _ hcond _ hL _ _
  have hval : ∀ (j : Nat) t v, Tryd.f3.params[j]? = some t → args[j]? = some v → Value.okWide Tryd.prog W .any base t v := hval0
  have hW' := hW
  obtain ⟨p, q, hA0, hV, rfl, hfz, hnd⟩ := hW
  have hA : DataW.TrodAll enc Tryd.prog W 0 (fun _ => true) true Tryd.f3.params.toList args.toList ds p := hA0
  rw [Tryd.params3] at hA hval
  obtain ⟨v0, vs0, d0, ds0, p0, q0, hargs, rfl, rfl, h0, r0⟩ := trodAll_cons hA
  obtain ⟨v1, vs1, d1, ds1, p1, q1, rfl, rfl, rfl, h1, r1⟩ := trodAll_cons r0
  obtain ⟨rfl, rfl, rfl⟩ := trodAll_nil r1
  obtain rfl : args = #[v0, v1] := by cases args; simp_all
  obtain ⟨rfl, rfl⟩ := trodVars_none hV
  have lt0 : ∀ x ∈ p0, x.block < W.heap.size := by obtain ⟨m, hm⟩ := h0; exact DataW.trod_lt m _ _ _ hm
  have lt1 : ∀ x ∈ p1, x.block < W.heap.size := by obtain ⟨m, hm⟩ := h1; exact DataW.trod_lt m _ _ _ hm
  refine (walk (enc := enc) base v0 d0 p0 v1 d1 p1 W (hval 0 9 v0 rfl rfl) h0 (hval 1 5 v1 rfl rfl) h1 hL).mono fun e W' ⟨he, bel⟩ => ?_
  subst he
  exact ⟨_, rfl, _, _, _, [], _, [], hW', trodAll_mk1 (shut_bool Tryd.underlying4 _), (trodAll_cons_mk (Below.trod laidOut (by kernel_rfl) (of_decide_eq_true (by kernel_rfl)) h0 bel lt0) (trodAll_cons_mk (Below.trod laidOut (by kernel_rfl) (of_decide_eq_true (by kernel_rfl)) h1 bel lt1) trodAll_mk0)), rfl, bel.frame _, fun h => by cases h⟩

theorem said : Rows.LexThereSaid :=
  OpenClaim.holds_of_cond 3 Tryd.f3 rfl rfl rfl rfl rfl rfl rfl ⟨rfl, rfl, rfl, rfl, rfl⟩ rfl rfl rfl rfl rfl (by kernel_rfl) Tryd.func3 (by kernel_rfl)
    (of_decide_eq_true (by kernel_rfl)) (by unfold Func.isWrapper; first | (rw [if_pos (by decide +kernel)]; kernel_rfl) | (rw [if_neg (by decide +kernel)]; exact ⟨rfl, rfl⟩))
    (fun os started H enc _ F => by rw [OpenClaim.pre_eq_preRow]; exact lifted os started H enc F)
theorem plain (f : FuncId) (fn : Func) (hf : Tryd.pinned.checked.prog.funcNamed "hasp/hasplaw12.LexThere" = some f) (hfn : Tryd.pinned.checked.prog.funcs[f]? = some fn) :
    true = Tryd.pinned.checked.prog.looks [] ∧ ∀ (j : Nat) t, fn.params[j]? = some t → Tryd.pinned.checked.prog.wantsStandIn t = false := by
  obtain rfl : f = 3 := Option.some.inj ((show Tryd.prog.funcNamed "hasp/hasplaw12.LexThere" = some 3 by kernel_rfl).symm.trans hf) |>.symm
  obtain rfl : fn = Tryd.f3 := (Option.some.inj (Tryd.func3.symm.trans hfn)).symm
  refine ⟨by kernel_rfl, fun j t ht => ?_⟩
  rw [Tryd.params3] at ht
  have hm : t ∈ ([9, 5] : List TypeId) := by simpa using Array.mem_of_getElem? ht
  have hall : (([9, 5] : List TypeId).all fun u => !Tryd.prog.wantsStandIn u) = true := by kernel_rfl
  exact (show Tryd.prog.wantsStandIn t = false by simpa using List.all_eq_true.1 hall t hm)

theorem proved : Rows.LexThereCardSaid :=
  Claim7.holds_tied_plain_at .later [] _ _ _ _ said (fun _ h => by cases h) (by kernel_rfl) (fun _ h => by cases h) lexThere_row_tie rfl ⟨rfl, rfl⟩ (by kernel_rfl) rfl plain (by kernel_rfl)
end Go.Proofs.YtlhipnklljjahaaDoor.lexThere
