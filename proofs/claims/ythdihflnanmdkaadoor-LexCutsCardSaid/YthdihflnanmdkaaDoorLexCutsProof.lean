/-
  LexCuts answers true at any text: it is cut into tokens, or refused, exactly as the document says, and what is written over one answer is not in another one.
  Conditions: none but the row's own; the listed variables hold what the program's text lays (the card ties them).
-/
import Derived.Test.YthdihflnanmdkaaDoorLx29
import Derived.Test.YthdihflnanmdkaaDoorLx30
import Derived.Test.YthdihflnanmdkaaDoorLx31
import Derived.Test.YthdihflnanmdkaaDoorLx33
import Derived.Test.YthdihflnanmdkaaDoorCards
import Derived.Test.YthdihflnanmdkaaDoorTie
import Derived.WalkKit
import Derived.ProofKit
import Derived.OpenShut
import Derived.ShutString
import Derived.ChangeOld
import Derived.Below
import Derived.Carry
import Derived.Deep.DeepHandedRow
import Derived.Deep.DeepWitnessRowRef
import Derived.Lib.LaidTab
namespace Go.Proofs.YthdihflnanmdkaaDoor.lexCuts
open Go.ChangeShapes Go.WideShapes Go.ChangeAt Go.RowKit
open Go.Joins
set_option linter.unusedVariables false

theorem own : ownKnob Tryd.prog.godebug = none := by kernel_rfl
theorem laidOut : laidOutB Tryd.prog = true := by kernel_rfl

set_option maxRecDepth 100000 in

set_option maxHeartbeats 4000000 in
theorem walk {H : Type} {enc : TypeId × Value → H} (base : Nat) (v0 : Value) (d0 : DataW H) (p0 : List MemPlace) (W : World)
    (o0 : Value.okWide Tryd.prog W .any base 9 v0) (h0 : DataW.Trod enc Tryd.prog W 0 (fun _ => true) true 9 v0 d0 p0)
    (hL : laidMetH Tryd.prog Rows.lexCutsRow.laid W) :
    Calls Tryd.prog 4 #[v0] W fun e w' => e = .returned (.bool true) ∧ Below W.heap.size W w' := by
  obtain ⟨s, rfl, hsz⟩ := open_str o0
  have hE := errr_of_laid hL
  have HE := Lib.hid hE
  have HS := Lib.hid (speaks12_any W hE)
  clear hL hE o0 h0
  go_enter Tryd.func4, Tryd.ntmps4
  go_wp2_with fail
  refine HS.out.mono ?_
  rintro e w0 ⟨rfl, b0⟩
  have HT1 := Lib.hid (tokens_any s w0 (HE.out.below b0))
  have HE0 := Lib.hid (HE.out.below b0)
  have B0 := Lib.hid b0
  clear b0
  cases hx : toksE (sl s) with
  | error er =>
    rw [hx] at HT1
    have hx' := hx
    have HX := Lib.hid hx'
    clear hx hx'
    go_wp2_with fail
    refine HT1.out.mono ?_
    rintro e w1 ⟨b1, rfl⟩
    have HT2 := Lib.hid (tokens_any s w1 (HE0.out.below b1))
    rw [HX.out] at HT2
    have B1 := Lib.hid (B0.out.trans (b1.mono B0.out.size))
    clear b1
    go_wp2_with fail
    refine HT2.out.mono ?_
    rintro e w2 ⟨b2, rfl⟩
    have HT3 := Lib.hid (rtokens_any s w2)
    rw [HX.out] at HT3
    have B2 := Lib.hid (B1.out.trans (b2.mono B1.out.size))
    clear b2
    go_wp2_with fail
    refine HT3.out.mono ?_
    rintro e w3 ⟨b3, v3, rfl, o3⟩
    obtain ⟨a3, cap3, rfl, l3⟩ := o3.lta
    have B3 := Lib.hid (B2.out.trans (b3.mono B2.out.size))
    have HSM := Lib.hid (rsame_any w3 [] [] none a3 0 cap3 (.inl ⟨rfl, rfl⟩) l3 (fun t h => by simp at h) (fun t h => by simp at h) (by simp) (by simp))
    clear b3 o3 l3
    go_wp2_with fail
    go_loopw [29] (fun i wr => i = .int .i64 0 ∧ w3 = wr) (fun _ _ => 0)
    case atStart => exact ⟨rfl, by trivial⟩
    case round =>
      obtain ⟨rfl, rfl⟩ := hrel
      have HB3 := B3
      go_wp2_with fail
      try go_at_call 8
      refine HSM.out.mono ?_
      rintro e w4 ⟨rfl, b4⟩
      have B4 := Lib.hid (HB3.out.trans (b4.mono HB3.out.size))
      clear b4
      go_wp2_with fail
      go_ret
      exact ⟨rfl, B4.out⟩
  | ok ts =>
    rw [hx] at HT1
    have hx' := hx
    have HX := Lib.hid hx'
    clear hx hx'
    go_wp2_with fail
    refine HT1.out.mono ?_
    rintro e w1 ⟨b1, v1, rfl, o1⟩
    have HT2 := Lib.hid (tokens_any s w1 (HE0.out.below b1))
    rw [HX.out] at HT2
    have S01 := b1.size
    have B1 := Lib.hid (B0.out.trans (b1.mono B0.out.size))
    have O1 := Lib.hid o1
    clear b1 o1
    go_wp2_with fail
    refine HT2.out.mono ?_
    rintro e w2 ⟨b2, v2, rfl, o2⟩
    have HT3 := Lib.hid (rtokens_any s w2)
    rw [HX.out] at HT3
    have B2 := Lib.hid (B1.out.trans (b2.mono B1.out.size))
    have O1' := Lib.hid (O1.out.below b2)
    have O2 := Lib.hid o2
    have S12 := Lib.hid b2.size
    clear b2 o2
    go_wp2_with fail
    refine HT3.out.mono ?_
    rintro e w3 ⟨b3, v3, rfl, o3⟩
    have B3 := Lib.hid (B2.out.trans (b3.mono B2.out.size))
    obtain ⟨hrt, hlen, _, _⟩ := toks_right (sl_lt s) HX.out
    obtain ⟨a3, cap3, rfl, l3⟩ := o3.lta
    obtain ⟨a2, cap2, rfl, l2⟩ := (O2.out.below b3).lta
    have HL23 := Lib.hid (And.intro l2 l3)
    have HRT := Lib.hid hrt
    obtain ⟨n, hn⟩ : ∃ n, ts.length = n := ⟨_, rfl⟩
    have HNN := Lib.hid hn
    have hO1 := OwT.cases (O1'.out.below b3)
    have S3 := b3.size
    have hS12 := S12.out
    have hB1s := B1.out.size
    have hown2 : ∀ g, (Value.slice a2 ts.length cap2).ownBlock = some g → w1.heap.size ≤ g := fun g hg => (O2.out.lt g hg).1
    have hown3 : ∀ g, (Value.slice a3 ts.length cap3).ownBlock = some g → w2.heap.size ≤ g := fun g hg => (o3.lt g hg).1
    have hlt1 : ∀ g, v1.ownBlock = some g → w0.heap.size ≤ g ∧ g < w1.heap.size := fun g hg => O1.out.lt g hg
    have HOW := Lib.hid (And.intro hown2 (And.intro hown3 hlt1))
    have S0 := B0.out.size
    rw [hn] at HOW hlen ⊢
    clear hown2 hown3 hlt1 hrt b3 o3 l2 l3
    rcases hO1 with ⟨rfl, rfl⟩ | ⟨g1, cap1, cur, rfl, hg0, hg, hcap, hcm, hcl, hct⟩
    · have hn0 : 0 = n := hn
      subst hn0
      have HSM := Lib.hid (rsame_any w3 [] [] a2 a3 cap2 cap3 HL23.out.1 HL23.out.2 (fun t h => by simp at h) (fun t h => by simp at h) (by simp) (by simp))
      have HSM2 : Hid (Calls Tryd.prog 8 #[.slice a2 0 cap2, .slice a3 0 cap3] w3 fun e w' => e = .returned (.bool true) ∧ Below w3.heap.size w3 w') := Lib.hid (by simpa using HSM.out)
      clear HSM hn
      go_wp2_with fail
      go_loopw [29] (fun i wr => i = .int .i64 0 ∧ w3 = wr) (fun _ _ => 0)
      case atStart => exact ⟨rfl, by trivial⟩
      case round =>
        obtain ⟨rfl, rfl⟩ := hrel
        go_wp2_with fail
        try go_at_call 8
        refine HSM2.out.mono ?_
        rintro e w4 ⟨rfl, b4⟩
        have B4 := Lib.hid (B3.out.trans (b4.mono B3.out.size))
        clear b4
        go_wp2_with fail
        go_ret
        exact ⟨rfl, B4.out⟩
    · rw [hn] at hcap HOW ⊢
      obtain ⟨hl0, hl1⟩ := HOW.out.2.2 g1 rfl
      have HO2 := Lib.hid (HOW.out.1)
      have HO3 := Lib.hid (HOW.out.2.1)
      clear HOW hn hct
      go_wp2_with fail
      go_loopw [29] (fun i wr => ∃ k : Nat, k ≤ n ∧ i = .int .i64 (k : Int) ∧ Frm (fun b => b = g1) w3 wr ∧ ∃ cur : Array Value, wr.heap[g1]? = some (.cells cur 30 (0, 0)) ∧ cur.size = cap1 * 4) (fun i _ => n - (intOf i).toNat)
      case atStart => exact ⟨0, Nat.zero_le _, rfl, Frm.refl _ _, _, hg, by simpa using hcl⟩
      case round =>
        obtain ⟨k, hk, rfl, hf, cur2, hg2, hc2⟩ := hrel
        have HF := Lib.hid hf
        have HG2 := Lib.hid hg2
        by_cases hkn : k < n
        · have hkn2 : (k : Int) < (n : Int) := by omega
          have z1 : wr.cell? ⟨g1, k * 4 + 1, none⟩ = some (cur2[k * 4 + 1]'(by omega)) := by
            rw [cell_of_block hg2, Array.getElem?_eq_getElem]
          have z2 := unfrozen_of_block hg2 (k * 4 + 1)
          generalize cur2[k * 4 + 1]'(by omega) = z at *
          have w5' : IntKind.i64.wrap ((k : Int) + 1) = (k : Int) + 1 := by rw [IntKind.wrap_i64]; omega
          clear hf hg2
          go_wp2_with fail
          refine ⟨⟨k + 1, by omega, by congr 1, HF.out.setCell (.inl rfl) _ _, _, box_set HG2.out _ _, by simpa using hc2⟩, by simp [intOf]; omega⟩
        · have hkn2 : decide ((k : Int) < (n : Int)) = false := by simp; omega
          have hbw : Below W.heap.size W wr := B3.out.trans (hf.below (fun b hb => by subst hb; omega) (by have := B3.out.size; omega))
          have l2 := HL23.out.1.frm hf (fun b hb => by subst hb; have := HO2.out b rfl; show ¬ b = g1; omega)
          have l3 := HL23.out.2.frm hf (fun b hb => by subst hb; have := HO3.out b rfl; show ¬ b = g1; omega)
          have hsm := rsame_any wr ts ts a2 a3 cap2 cap3 l2 l3 HRT.out HRT.out (by rw [HNN.out]; omega) (by rw [HNN.out]; omega)
          rw [HNN.out, decide_eq_true rfl] at hsm
          have HSM := Lib.hid hsm
          have BX := Lib.hid hbw
          clear hsm hbw l2 l3 hf hg2
          go_wp2_with fail
          try go_at_call 8
          refine HSM.out.mono ?_
          rintro e w4 ⟨rfl, b4⟩
          have B4 := Lib.hid (BX.out.trans (b4.mono BX.out.size))
          clear b4
          go_wp2_with fail
          go_ret
          exact ⟨rfl, B4.out⟩

/-- a world for the witness: the listed variables hold what is laid -/
noncomputable def laidWorld (os : Os) : World := lxWorld os
theorem laid_met (os : Os) : laidMetH Tryd.prog Rows.lexCutsRow.laid ((laidWorld os).forCall (fun _ _ => 0) ⟨#[], #[.string ByteArray.empty], []⟩).memory := by
  show laidMetH Tryd.prog lxLaid _
  rw [lx_nohandle]
  exact laidMet.of_heap (w := lxWorld os) rfl (lx_met os)
theorem reads (os : Os) {H : Type} (enc : TypeId × Value → H) : ∃ places, DataW.whole enc Tryd.prog ((laidWorld os).forCall (fun _ _ => 0) ⟨#[], #[.string ByteArray.empty], []⟩).memory Tryd.f4.params.toList Rows.lexCutsSpec.vars false (#[.string ByteArray.empty] : Array Value).toList 8 = some ([.lit (.string [])], [], places) :=
  ⟨[], by kernel_rfl⟩

set_option maxRecDepth 100000 in
theorem lifted (os : Os) (started : os.Started) (H : Type) (enc : TypeId × Value → H) (F : Stop.Interp) :
    ReturnsInHanded {} Tryd.checked os 4 .any ((OpenSpec.ofChange Rows.lexCutsSpec).preRow enc Tryd.prog Tryd.f4 Rows.lexCutsRow.domain false Rows.lexCutsRow.laid) (((OpenSpec.ofChange Rows.lexCutsSpec).at F).post enc Tryd.prog Tryd.f4 false true false false) := by
  obtain ⟨places, hx⟩ := reads os enc
  refine returnsInHanded_of_row (C := Tryd.checked) (s := (OpenSpec.ofChange Rows.lexCutsSpec)) own started (by kernel_rfl) Tryd.func4
    (witness_row_atRef (enc := enc) (C := Tryd.checked) false (laidWorld os) #[.string ByteArray.empty] rfl (by kernel_rfl) (by kernel_rfl) (by kernel_rfl)
      (OpenSpec.preRow_of_cond 8 hx (by kernel_rfl) (fun k hk => by cases hk) (by kernel_rfl) (laid_met os))) ?_
  intro W base args ds gs before hval0 hW _ hcond _ hL _ _
  have hval : ∀ (j : Nat) t v, Tryd.f4.params[j]? = some t → args[j]? = some v → Value.okWide Tryd.prog W .any base t v := hval0
  have hW' := hW
  obtain ⟨p, q, hA0, hV, rfl, hfz, hnd⟩ := hW
  have hA : DataW.TrodAll enc Tryd.prog W 0 (fun _ => true) true Tryd.f4.params.toList args.toList ds p := hA0
  rw [Tryd.params4] at hA hval
  obtain ⟨v0, vs0, d0, ds0, p0, q0, hargs, rfl, rfl, h0, r0⟩ := trodAll_cons hA
  obtain ⟨rfl, rfl, rfl⟩ := trodAll_nil r0
  obtain rfl : args = #[v0] := by cases args; simp_all
  obtain ⟨rfl, rfl⟩ := trodVars_none hV
  have lt0 : ∀ x ∈ p0, x.block < W.heap.size := by obtain ⟨m, hm⟩ := h0; exact DataW.trod_lt m _ _ _ hm
  refine (walk (enc := enc) base v0 d0 p0 W (hval 0 9 v0 rfl rfl) h0 hL).mono fun e W' ⟨he, bel⟩ => ?_
  subst he
  exact ⟨_, rfl, _, _, _, [], _, [], hW', trodAll_mk1 (shut_bool Tryd.underlying4 _), (trodAll_cons_mk (Below.trod laidOut (by kernel_rfl) (of_decide_eq_true (by kernel_rfl)) h0 bel lt0) trodAll_mk0), rfl, bel.frame _, fun h => by cases h⟩

theorem said : Rows.LexCutsSaid :=
  OpenClaim.holds_of_cond 4 Tryd.f4 rfl rfl rfl rfl rfl rfl rfl ⟨rfl, rfl, rfl, rfl, rfl⟩ rfl rfl rfl rfl rfl (by kernel_rfl) Tryd.func4 (by kernel_rfl)
    (of_decide_eq_true (by kernel_rfl)) (by unfold Func.isWrapper; first | (rw [if_pos (by decide +kernel)]; kernel_rfl) | (rw [if_neg (by decide +kernel)]; exact ⟨rfl, rfl⟩))
    (fun os started H enc _ F => by rw [OpenClaim.pre_eq_preRow]; exact lifted os started H enc F)
theorem plain (f : FuncId) (fn : Func) (hf : Tryd.pinned.checked.prog.funcNamed "hasp/hasplaw12.LexCuts" = some f) (hfn : Tryd.pinned.checked.prog.funcs[f]? = some fn) :
    true = Tryd.pinned.checked.prog.looks [] ∧ ∀ (j : Nat) t, fn.params[j]? = some t → Tryd.pinned.checked.prog.wantsStandIn t = false := by
  obtain rfl : f = 4 := Option.some.inj ((show Tryd.prog.funcNamed "hasp/hasplaw12.LexCuts" = some 4 by kernel_rfl).symm.trans hf) |>.symm
  obtain rfl : fn = Tryd.f4 := (Option.some.inj (Tryd.func4.symm.trans hfn)).symm
  refine ⟨by kernel_rfl, fun j t ht => ?_⟩
  rw [Tryd.params4] at ht
  have hm : t ∈ ([9] : List TypeId) := by simpa using Array.mem_of_getElem? ht
  have hall : (([9] : List TypeId).all fun u => !Tryd.prog.wantsStandIn u) = true := by kernel_rfl
  exact (show Tryd.prog.wantsStandIn t = false by simpa using List.all_eq_true.1 hall t hm)

theorem proved : Rows.LexCutsCardSaid :=
  Claim7.holds_tied_plain_at .later [] _ _ _ _ said (fun _ h => by cases h) (by kernel_rfl) (fun _ h => by cases h) lexCuts_row_tie rfl ⟨rfl, rfl⟩ (by kernel_rfl) rfl plain (by kernel_rfl)
end Go.Proofs.YthdihflnanmdkaaDoor.lexCuts
