/-
  LexJoin answers true at any two texts: the tokens of the two with a blank between are those of the first and those of the second.
  Conditions: none but the row's own; the listed variables hold what the program's text lays (the card ties them).
-/
import Derived.Test.YthdihflnanmdkabDoorLx30
import Derived.Test.YthdihflnanmdkabDoorLx31
import Derived.Test.YthdihflnanmdkabDoorLx35
import Derived.Test.YthdihflnanmdkabDoorCards
import Derived.Test.YthdihflnanmdkabDoorTie
import Derived.WalkKit
import Derived.ProofKit
import Derived.OpenShut
import Derived.ShutString
import Derived.ChangeOld
import Derived.Below
import Derived.Carry
import Derived.Deep.DeepHandedRow
import Derived.Deep.DeepWitnessRowRef
import Derived.Lib.LaidTab
namespace Go.Proofs.YthdihflnanmdkabDoor.lexJoin
open Go.ChangeShapes Go.WideShapes Go.ChangeAt Go.RowKit
open Go.Joins
set_option linter.unusedVariables false

theorem own : ownKnob Tryd.prog.godebug = none := by kernel_rfl
theorem laidOut : laidOutB Tryd.prog = true := by kernel_rfl

set_option maxRecDepth 100000 in

set_option maxHeartbeats 4000000 in
theorem walk {H : Type} {enc : TypeId × Value → H} (base : Nat) (v0 : Value) (d0 : DataW H) (p0 : List MemPlace) (v1 : Value) (d1 : DataW H) (p1 : List MemPlace) (W : World)
    (o0 : Value.okWide Tryd.prog W .any base 9 v0) (h0 : DataW.Trod enc Tryd.prog W 0 (fun _ => true) true 9 v0 d0 p0)
    (o1 : Value.okWide Tryd.prog W .any base 9 v1) (h1 : DataW.Trod enc Tryd.prog W 0 (fun _ => true) true 9 v1 d1 p1)
    (hL : laidMetH Tryd.prog Rows.lexJoinRow.laid W) :
    Calls Tryd.prog 5 #[v0, v1] W fun e w' => e = .returned (.bool true) ∧ Below W.heap.size W w' := by
  obtain ⟨s, rfl, hsz⟩ := open_str o0
  obtain ⟨t, rfl, htz⟩ := open_str o1
  have hE := errr_of_laid hL
  have HE := Lib.hid hE
  have HS := Lib.hid (speaks12_any W hE)
  clear hL hE o0 h0 o1 h1 hsz htz
  go_enter Tryd.func5, Tryd.ntmps5
  go_wp2_with fail
  refine HS.out.mono ?_
  rintro e w0 ⟨rfl, b0⟩
  have B0 := Lib.hid b0
  have HE0 := Lib.hid (HE.out.below b0)
  have HT1 := Lib.hid (tokens_any s w0 (HE.out.below b0))
  clear b0
  go_wp2_with fail
  try go_at_call 11
  refine HT1.out.mono ?_
  rintro e w1 ⟨b1, he1⟩
  have B1 := Lib.hid (B0.out.trans (b1.mono B0.out.size))
  have HE1 := Lib.hid (HE0.out.below b1)
  have HT2 := Lib.hid (tokens_any t w1 (HE0.out.below b1))
  clear b1
  have hc1 : (∃ er : Nat, toksE (sl s) = .error er ∧ 0 < er ∧ e = .returned (.tuple #[.slice none 0 0, .int .i64 (er : Int)])) ∨ (∃ ts v, toksE (sl s) = .ok ts ∧ e = .returned (.tuple #[v, .int .i64 0]) ∧ OwT w1 w0.heap.size v ts) := by
    cases hx : toksE (sl s) with
    | error er => rw [hx] at he1; exact .inl ⟨er, rfl, toksE_err _ _ hx, he1⟩
    | ok ts => rw [hx] at he1; obtain ⟨v, h1, h2⟩ := he1; exact .inr ⟨ts, v, rfl, h1, h2⟩
  clear he1
  rcases hc1 with ⟨er, hx1, hp1, rfl⟩ | ⟨ts, v1, hx1, rfl, o1⟩
  · have q1 : ((er : Int) != 0) = true := by simp; omega
    clear hx1
    go_wp2_with fail
    try go_at_call 11
    refine HT2.out.mono ?_
    rintro e w2 ⟨b2, he2⟩
    have B2 := Lib.hid (B1.out.trans (b2.mono B1.out.size))
    have hform : ∃ a n cap q, e = .returned (.tuple #[.slice a n cap, .int .i64 q]) := by
      cases hx : toksE (sl t) with
      | error er => rw [hx] at he2; exact ⟨_, _, _, _, he2⟩
      | ok ts =>
        rw [hx] at he2
        obtain ⟨v, he, o⟩ := he2
        obtain ⟨a, cap, rfl, _⟩ := o.form
        exact ⟨_, _, _, _, he⟩
    obtain ⟨a, n, cap, q, rfl⟩ := hform
    clear he2 b2
    go_wp2_with fail
    go_ret
    exact ⟨rfl, B2.out⟩
  · have HX1 := Lib.hid hx1
    have O1 := Lib.hid o1
    clear hx1 o1
    go_wp2_with fail
    try go_at_call 11
    refine HT2.out.mono ?_
    rintro e w2 ⟨b2, he2⟩
    have B2 := Lib.hid (B1.out.trans (b2.mono B1.out.size))
    have HE2 := Lib.hid (HE1.out.below b2)
    have O1' := Lib.hid (O1.out.below b2)
    clear b2
    have hc2 : (∃ er : Nat, toksE (sl t) = .error er ∧ 0 < er ∧ e = .returned (.tuple #[.slice none 0 0, .int .i64 (er : Int)])) ∨ (∃ us v, toksE (sl t) = .ok us ∧ e = .returned (.tuple #[v, .int .i64 0]) ∧ OwT w2 w1.heap.size v us) := by
      cases hx : toksE (sl t) with
      | error er => rw [hx] at he2; exact .inl ⟨er, rfl, toksE_err _ _ hx, he2⟩
      | ok ts => rw [hx] at he2; obtain ⟨v, h1, h2⟩ := he2; exact .inr ⟨ts, v, rfl, h1, h2⟩
    clear he2
    rcases hc2 with ⟨er, hx2, hp2, rfl⟩ | ⟨us, v2, hx2, rfl, o2⟩
    · have q1 : ((er : Int) != 0) = true := by simp; omega
      clear hx2
      go_wp2_with fail
      go_ret
      exact ⟨rfl, B2.out⟩
    · have HX2 := Lib.hid hx2
      obtain ⟨rt1, rl1, sl1, _⟩ := toks_right (sl_lt s) HX1.out
      obtain ⟨rt2, rl2, sl2, _⟩ := toks_right (sl_lt t) HX2.out
      rw [sl_length] at sl1 sl2
      have HRT := Lib.hid (And.intro rt1 rt2)
      have O2 := Lib.hid o2
      clear hx2 rt1 rt2 o2
      have w1' : IntKind.i64.wrap ((s.size : Int) + 1) = (s.size : Int) + 1 := by rw [IntKind.wrap_i64]; omega
      have w2' : IntKind.i64.wrap (4000 - (t.size : Int)) = 4000 - (t.size : Int) := by rw [IntKind.wrap_i64]; omega
      by_cases hlong : s.size + 1 > 4000 - t.size
      · have k1 : decide (4000 - (t.size : Int) < (s.size : Int) + 1) = true := by simp; omega
        go_wp2_with fail
        go_ret
        exact ⟨rfl, B2.out⟩
      · have k1 : decide (4000 - (t.size : Int) < (s.size : Int) + 1) = false := by simp; omega
        have hj := toks_join HX1.out HX2.out (by rw [sl_length, sl_length]; omega)
        rw [← sl_join] at hj
        have HJ := Lib.hid hj
        have HT3 := Lib.hid (tokens_any (s ++ ⟨#[32]⟩ ++ t) w2 HE2.out)
        rw [HJ.out] at HT3
        clear hj
        go_wp2_with fail
        try go_at_call 11
        refine HT3.out.mono ?_
        rintro e w3 ⟨b3, v3, rfl, o3⟩
        have B3 := Lib.hid (B2.out.trans (b3.mono B2.out.size))
        obtain ⟨a1, c1, rfl, l1, z1⟩ := (O1'.out.below b3).lta2
        obtain ⟨a2, c2, rfl, l2, z2⟩ := (O2.out.below b3).lta2
        obtain ⟨a3, c3, rfl, l3, z3⟩ := o3.lta2
        obtain ⟨w4, hw4⟩ : ∃ w4, w3.alloc (.cells #[] 29) = w4 := ⟨_, rfl⟩
        have b4 : Below w3.heap.size w3 w4 := by rw [← hw4]; exact (Below.refl _ _).alloc (Nat.le_refl _) _
        have ow4 : OwT w4 w3.heap.size (.slice (some ⟨w3.heap.size, 0, none⟩) 0 0) [] := by rw [← hw4]; exact World.ownsRow_made w3 #[] 0 (Nat.le_refl _) (by decide) rfl
        obtain ⟨v5, w5, hr5, ow5, gr5⟩ := run_appT w4 w3.heap.size _ [] ow4 b4.size a1 c1 ts (l1.below b4) z1 (by simp; omega) 24
        rw [List.nil_append] at ow5
        obtain ⟨a5, c5, rfl, l5, z5⟩ := ow5.lta2
        have hne : ∀ b, b < w3.heap.size → (Value.slice (some ⟨w3.heap.size, 0, none⟩) 0 0).ownBlock ≠ some b := fun b hb e => by have := (ow4.lt b e).1; omega
        have hl2 := l2.lt
        have hl3 := l3.lt
        have l25 := (l2.below b4).grown gr5 (fun b hb => hne b (hl2 b hb))
        have l35 := (l3.below b4).grown gr5 (fun b hb => hne b (hl3 b hb))
        obtain ⟨v6, w6, hr6, ow6, gr6⟩ := run_appT w5 w3.heap.size _ ts ow5 (Nat.le_trans b4.size gr5.size) a2 c2 us l25 z2 (by omega) 24
        have hne6 : ∀ b, b < w3.heap.size → (Value.slice a5 ts.length c5).ownBlock ≠ some b := fun b hb e => by have := (ow5.lt b e).1; omega
        have l36 := l35.grown gr6 (fun b hb => hne6 b (hl3 b hb))
        obtain ⟨a6, c6, rfl, l6, z6⟩ := ow6.lta2
        have hrt : ∀ x ∈ ts ++ us, TkR x := fun x hx => by
          rcases List.mem_append.1 hx with g | g
          · exact HRT.out.1 x g
          · exact HRT.out.2 x g
        have hsm := rsame_any w6 (ts ++ us) (ts ++ us) a3 a6 c3 c6 l36 l6 hrt hrt (by rw [List.length_append]; omega) (by rw [List.length_append]; omega)
        rw [decide_eq_true rfl] at hsm
        have hb6 : Below w3.heap.size w3 w6 := (b4.grown gr5 b4.size (fun k hk => (ow4.lt k hk).1)).grown gr6 (Nat.le_trans b4.size gr5.size) (fun k hk => (ow5.lt k hk).1)
        have B6 := Lib.hid (B3.out.trans (hb6.mono B3.out.size))
        have HSM := Lib.hid hsm
        obtain ⟨n1, hn1⟩ : ∃ n1, ts.length = n1 := ⟨_, rfl⟩
        obtain ⟨n2, hn2⟩ : ∃ n2, us.length = n2 := ⟨_, rfl⟩
        obtain ⟨n3, hn3⟩ : ∃ n3, (ts ++ us).length = n3 := ⟨_, rfl⟩
        rw [hn3] at HSM hr6
        rw [hn1] at hr5 hr6
        rw [hn2] at hr6
        simp only [hn1, hn2, hn3]
        clear hn1 hn2 hn3 hsm hb6 hrt l36 l35 l25 l6 l5 l3 l2 l1 ow6 ow5 ow4 gr6 gr5 b4 b3 o3 hne hne6 hl2 hl3 z1 z2 z3 z5 z6
        have HA5 := Lib.hid hr5
        have HA6 := Lib.hid hr6
        clear hr5 hr6
        go_wp2_with (first | (at_builtin; refine wpList_step fun K hK => ?_; rw [if_pos (by rfl)]; refine Lib.wp_append_run _ (.tmp 50) (.tmp 51) _ _ rfl _ _ rfl rfl _ _ HA5.out (hK _ _ ?_)) | (at_builtin; refine wpList_step fun K hK => ?_; rw [if_pos (by rfl)]; refine Lib.wp_append_run _ (.tmp 52) (.tmp 53) _ _ rfl _ _ rfl rfl _ _ HA6.out (hK _ _ ?_)))
        try go_at_call 13
        refine HSM.out.mono ?_
        rintro e w7 ⟨rfl, b7⟩
        have B7 := Lib.hid (B6.out.trans (b7.mono B6.out.size))
        clear b7
        go_wp2_with fail
        go_ret
        exact ⟨rfl, B7.out⟩

/-- a world for the witness: the listed variables hold what is laid -/
noncomputable def laidWorld (os : Os) : World := lxWorld os
theorem laid_met (os : Os) : laidMetH Tryd.prog Rows.lexJoinRow.laid ((laidWorld os).forCall (fun _ _ => 0) ⟨#[], #[.string ByteArray.empty, .string ByteArray.empty], []⟩).memory := by
  show laidMetH Tryd.prog lxLaid _
  rw [lx_nohandle]
  exact laidMet.of_heap (w := lxWorld os) rfl (lx_met os)
theorem reads (os : Os) {H : Type} (enc : TypeId × Value → H) : ∃ places, DataW.whole enc Tryd.prog ((laidWorld os).forCall (fun _ _ => 0) ⟨#[], #[.string ByteArray.empty, .string ByteArray.empty], []⟩).memory Tryd.f5.params.toList Rows.lexJoinSpec.vars false (#[.string ByteArray.empty, .string ByteArray.empty] : Array Value).toList 8 = some ([.lit (.string []), .lit (.string [])], [], places) :=
  ⟨[], by kernel_rfl⟩

set_option maxRecDepth 100000 in
theorem lifted (os : Os) (started : os.Started) (H : Type) (enc : TypeId × Value → H) (F : Stop.Interp) :
    ReturnsInHanded {} Tryd.checked os 5 .any ((OpenSpec.ofChange Rows.lexJoinSpec).preRow enc Tryd.prog Tryd.f5 Rows.lexJoinRow.domain false Rows.lexJoinRow.laid) (((OpenSpec.ofChange Rows.lexJoinSpec).at F).post enc Tryd.prog Tryd.f5 false true false false) := by
  obtain ⟨places, hx⟩ := reads os enc
  refine returnsInHanded_of_row (C := Tryd.checked) (s := (OpenSpec.ofChange Rows.lexJoinSpec)) own started (by kernel_rfl) Tryd.func5
    (witness_row_atRef (enc := enc) (C := Tryd.checked) false (laidWorld os) #[.string ByteArray.empty, .string ByteArray.empty] rfl (by kernel_rfl) (by kernel_rfl) (by kernel_rfl)
      (OpenSpec.preRow_of_cond 8 hx (by kernel_rfl) (fun k hk => by cases hk) (by kernel_rfl) (laid_met os))) ?_
  intro W base args ds gs before hval0 hW _ hcond _ hL _ _
  have hval : ∀ (j : Nat) t v, Tryd.f5.params[j]? = some t → args[j]? = some v → Value.okWide Tryd.prog W .any base t v := hval0
  have hW' := hW
  obtain ⟨p, q, hA0, hV, rfl, hfz, hnd⟩ := hW
  have hA : DataW.TrodAll enc Tryd.prog W 0 (fun _ => true) true Tryd.f5.params.toList args.toList ds p := hA0
  rw [Tryd.params5] at hA hval
  obtain ⟨v0, vs0, d0, ds0, p0, q0, hargs, rfl, rfl, h0, r0⟩ := trodAll_cons hA
  obtain ⟨v1, vs1, d1, ds1, p1, q1, rfl, rfl, rfl, h1, r1⟩ := trodAll_cons r0
  obtain ⟨rfl, rfl, rfl⟩ := trodAll_nil r1
  obtain rfl : args = #[v0, v1] := by cases args; simp_all
  obtain ⟨rfl, rfl⟩ := trodVars_none hV
  have lt0 : ∀ x ∈ p0, x.block < W.heap.size := by obtain ⟨m, hm⟩ := h0; exact DataW.trod_lt m _ _ _ hm
  have lt1 : ∀ x ∈ p1, x.block < W.heap.size := by obtain ⟨m, hm⟩ := h1; exact DataW.trod_lt m _ _ _ hm
  refine (walk (enc := enc) base v0 d0 p0 v1 d1 p1 W (hval 0 9 v0 rfl rfl) h0 (hval 1 9 v1 rfl rfl) h1 hL).mono fun e W' ⟨he, bel⟩ => ?_
  subst he
  exact ⟨_, rfl, _, _, _, [], _, [], hW', trodAll_mk1 (shut_bool Tryd.underlying4 _), (trodAll_cons_mk (Below.trod laidOut (by kernel_rfl) (of_decide_eq_true (by kernel_rfl)) h0 bel lt0) (trodAll_cons_mk (Below.trod laidOut (by kernel_rfl) (of_decide_eq_true (by kernel_rfl)) h1 bel lt1) trodAll_mk0)), rfl, bel.frame _, fun h => by cases h⟩

theorem said : Rows.LexJoinSaid :=
  OpenClaim.holds_of_cond 5 Tryd.f5 rfl rfl rfl rfl rfl rfl rfl ⟨rfl, rfl, rfl, rfl, rfl⟩ rfl rfl rfl rfl rfl (by kernel_rfl) Tryd.func5 (by kernel_rfl)
    (of_decide_eq_true (by kernel_rfl)) (by unfold Func.isWrapper; first | (rw [if_pos (by decide +kernel)]; kernel_rfl) | (rw [if_neg (by decide +kernel)]; exact ⟨rfl, rfl⟩))
    (fun os started H enc _ F => by rw [OpenClaim.pre_eq_preRow]; exact lifted os started H enc F)
theorem plain (f : FuncId) (fn : Func) (hf : Tryd.pinned.checked.prog.funcNamed "hasp/hasplaw12.LexJoin" = some f) (hfn : Tryd.pinned.checked.prog.funcs[f]? = some fn) :
    true = Tryd.pinned.checked.prog.looks [] ∧ ∀ (j : Nat) t, fn.params[j]? = some t → Tryd.pinned.checked.prog.wantsStandIn t = false := by
  obtain rfl : f = 5 := Option.some.inj ((show Tryd.prog.funcNamed "hasp/hasplaw12.LexJoin" = some 5 by kernel_rfl).symm.trans hf) |>.symm
  obtain rfl : fn = Tryd.f5 := (Option.some.inj (Tryd.func5.symm.trans hfn)).symm
  refine ⟨by kernel_rfl, fun j t ht => ?_⟩
  rw [Tryd.params5] at ht
  have hm : t ∈ ([9, 9] : List TypeId) := by simpa using Array.mem_of_getElem? ht
  have hall : (([9, 9] : List TypeId).all fun u => !Tryd.prog.wantsStandIn u) = true := by kernel_rfl
  exact (show Tryd.prog.wantsStandIn t = false by simpa using List.all_eq_true.1 hall t hm)

theorem proved : Rows.LexJoinCardSaid :=
  Claim7.holds_tied_plain_at .later [] _ _ _ _ said (fun _ h => by cases h) (by kernel_rfl) (fun _ h => by cases h) lexJoin_row_tie rfl ⟨rfl, rfl⟩ (by kernel_rfl) rfl plain (by kernel_rfl)
end Go.Proofs.YthdihflnanmdkabDoor.lexJoin
