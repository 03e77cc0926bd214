/-
  ParseReads answers true at any text: parse.Parse and the document's own parser give one statement and one error.
  Conditions: none but the row's own; the listed variables hold what the program's text lays (the card ties them).
-/
import Derived.Test.YtofnkfjhmjecjaaGreatDoorZp32
import Derived.Test.YtofnkfjhmjecjaaGreatDoorCards
import Derived.Test.YtofnkfjhmjecjaaGreatDoorTie
import Derived.WalkKit
import Derived.ProofKit
import Derived.OpenShut
import Derived.ShutString
import Derived.ChangeOld
import Derived.Below
import Derived.Carry
import Derived.Deep.DeepHandedRow
import Derived.Deep.DeepWitnessRowRef
import Derived.Lib.LaidTab
namespace Go.Proofs.YtofnkfjhmjecjaaGreatDoor.parseReads
open Go.ChangeShapes Go.WideShapes Go.ChangeAt Go.RowKit
open Go.Joins
set_option linter.unusedVariables false

theorem own : ownKnob Tryz.prog.godebug = none := by kernel_rfl
theorem laidOut : laidOutB Tryz.prog = true := by kernel_rfl

set_option maxRecDepth 100000 in

set_option maxHeartbeats 8000000 in
theorem walk {H : Type} {enc : TypeId × Value → H} (base : Nat) (v0 : Value) (d0 : DataW H) (p0 : List MemPlace) (W : World)
    (o0 : Value.okWide Tryz.prog W .any base 9 v0) (h0 : DataW.Trod enc Tryz.prog W 0 (fun _ => true) true 9 v0 d0 p0)
    (hL : laidMetH Tryz.prog Rows.parseReadsRow.laid W) :
    Calls Tryz.prog 3 #[v0] W fun e w' => e = .returned (.bool true) ∧ Below W.heap.size W w' := by
  obtain ⟨s, rfl, hsz⟩ := open_str o0
  have hE := errr_of_laid hL
  have HE := Lib.hid hE
  have HS := Lib.hid (speaks13_any W hE)
  obtain ⟨N, r, hr⟩ := parseS_tot s
  have HR := Lib.hid hr
  clear hL hE o0 h0 hsz hr
  go_enter Tryz.func3, Tryz.ntmps3
  go_wp2_with fail
  refine HS.out.mono ?_
  rintro e w0 ⟨rfl, b0⟩
  have B0 := Lib.hid b0
  have HP1 := Lib.hid (parse_p s w0 (HE.out.below b0) N HR.out)
  clear b0
  go_wp2_with fail
  try go_at_call 9
  refine HP1.out.mono ?_
  rintro e w2 hpe
  obtain ⟨b2, x, rfl, hx, mx⟩ := hpe.form
  rw [cd_out r]
  rw [st_out r] at hx
  clear hpe HP1
  obtain ⟨c, hc⟩ : ∃ c : Int, (cdOf r : Int) = c := ⟨_, rfl⟩
  rw [hc]
  have HCC := Lib.hid hc
  obtain ⟨wz, hst, bz, bxz, mxz⟩ := put_st mx
  have HST := Lib.hid hst
  have b23 := b2.trans (bz.mono b2.size)
  have HBZ := Lib.hid (B0.out.trans (b23.mono B0.out.size))
  have HP2 := Lib.hid (rparse_d (w := wz) HR.out)
  have HXX := Lib.hid (And.intro hx (And.intro bxz mxz))
  clear hc hst bz bxz mxz mx hx b2 b23
  go_wp2_with (first | (refine wpSt rfl _ _ rfl rfl rfl HST.out ?_; clear HST))
  try go_at_call 10
  refine HP2.out.mono ?_
  rintro e w3 hpe
  obtain ⟨b3, y, rfl, hy, my⟩ := hpe
  clear HP2
  rw [HCC.out]
  obtain ⟨wy, hst, by3, bxy, mxy⟩ := put_st my
  have HST := Lib.hid hst
  have b34 := b3.trans (by3.mono b3.size)
  have HBY := Lib.hid (HBZ.out.trans (b34.mono HBZ.out.size))
  have HL1 := Lib.hid (ld_V (HXX.out.2.1.below b34))
  have HL2 := Lib.hid (ld_V bxy)
  have HQ := Lib.hid (whole_q (w := wy) x y (HXX.out.1.trans hy.symm) (XSt.Mem.frm (Frm.of_below (F := fun _ => False) b34) (fun _ _ e => e) HXX.out.2.2) mxy)
  clear hst by3 bxy mxy my hy b3 b34
  go_wp2_with (first | (refine wpSt rfl _ _ rfl rfl rfl HST.out ?_; clear HST) | (refine wpLdG rfl _ rfl rfl HL1.out ?_; clear HL1) | (refine wpLdG rfl _ rfl rfl HL2.out ?_; clear HL2))
  try go_at_call 11
  refine HQ.out.mono ?_
  rintro e w5 ⟨rfl, b5⟩
  have HF := Lib.hid (HBY.out.trans (b5.mono HBY.out.size))
  clear b5
  go_wp2_with fail
  go_ret
  exact ⟨rfl, HF.out⟩

/-- a world for the witness: the listed variables hold what is laid -/
noncomputable def laidWorld (os : Os) : World := lxWorld os
theorem laid_met (os : Os) : laidMetH Tryz.prog Rows.parseReadsRow.laid ((laidWorld os).forCall (fun _ _ => 0) ⟨#[], #[.string ByteArray.empty], []⟩).memory := by
  show laidMetH Tryz.prog lxLaid _
  rw [lx_nohandle]
  exact laidMet.of_heap (w := lxWorld os) rfl (lx_met os)
theorem reads (os : Os) {H : Type} (enc : TypeId × Value → H) : ∃ places, DataW.whole enc Tryz.prog ((laidWorld os).forCall (fun _ _ => 0) ⟨#[], #[.string ByteArray.empty], []⟩).memory Tryz.f3.params.toList Rows.parseReadsSpec.vars false (#[.string ByteArray.empty] : Array Value).toList 8 = some ([.lit (.string [])], [], places) :=
  ⟨[], by kernel_rfl⟩

set_option maxRecDepth 100000 in
theorem lifted (os : Os) (started : os.Started) (H : Type) (enc : TypeId × Value → H) (F : Stop.Interp) :
    ReturnsInHanded {} Tryz.checked os 3 .any ((OpenSpec.ofChange Rows.parseReadsSpec).preRow enc Tryz.prog Tryz.f3 Rows.parseReadsRow.domain false Rows.parseReadsRow.laid) (((OpenSpec.ofChange Rows.parseReadsSpec).at F).post enc Tryz.prog Tryz.f3 false true false false) := by
  obtain ⟨places, hx⟩ := reads os enc
  refine returnsInHanded_of_row (C := Tryz.checked) (s := (OpenSpec.ofChange Rows.parseReadsSpec)) own started (by kernel_rfl) Tryz.func3
    (witness_row_atRef (enc := enc) (C := Tryz.checked) false (laidWorld os) #[.string ByteArray.empty] rfl (by kernel_rfl) (by kernel_rfl) (by kernel_rfl)
      (OpenSpec.preRow_of_cond 8 hx (by kernel_rfl) (fun k hk => by cases hk) (by kernel_rfl) (laid_met os))) ?_
  intro W base args ds gs before hval0 hW _ hcond _ hL _ _
  have hval : ∀ (j : Nat) t v, Tryz.f3.params[j]? = some t → args[j]? = some v → Value.okWide Tryz.prog W .any base t v := hval0
  have hW' := hW
  obtain ⟨p, q, hA0, hV, rfl, hfz, hnd⟩ := hW
  have hA : DataW.TrodAll enc Tryz.prog W 0 (fun _ => true) true Tryz.f3.params.toList args.toList ds p := hA0
  rw [Tryz.params3] at hA hval
  obtain ⟨v0, vs0, d0, ds0, p0, q0, hargs, rfl, rfl, h0, r0⟩ := trodAll_cons hA
  obtain ⟨rfl, rfl, rfl⟩ := trodAll_nil r0
  obtain rfl : args = #[v0] := by cases args; simp_all
  obtain ⟨rfl, rfl⟩ := trodVars_none hV
  have lt0 : ∀ x ∈ p0, x.block < W.heap.size := by obtain ⟨m, hm⟩ := h0; exact DataW.trod_lt m _ _ _ hm
  refine (walk (enc := enc) base v0 d0 p0 W (hval 0 9 v0 rfl rfl) h0 hL).mono fun e W' ⟨he, bel⟩ => ?_
  subst he
  exact ⟨_, rfl, _, _, _, [], _, [], hW', trodAll_mk1 (shut_bool Tryz.underlying4 _), (trodAll_cons_mk (Below.trod laidOut (by kernel_rfl) (of_decide_eq_true (by kernel_rfl)) h0 bel lt0) trodAll_mk0), rfl, bel.frame _, fun h => by cases h⟩

theorem said : Rows.ParseReadsSaid :=
  OpenClaim.holds_of_cond 3 Tryz.f3 rfl rfl rfl rfl rfl rfl rfl ⟨rfl, rfl, rfl, rfl, rfl⟩ rfl rfl rfl rfl rfl (by kernel_rfl) Tryz.func3 (by kernel_rfl)
    (of_decide_eq_true (by kernel_rfl)) (by unfold Func.isWrapper; first | (rw [if_pos (by decide +kernel)]; kernel_rfl) | (rw [if_neg (by decide +kernel)]; exact ⟨rfl, rfl⟩))
    (fun os started H enc _ F => by rw [OpenClaim.pre_eq_preRow]; exact lifted os started H enc F)
theorem plain (f : FuncId) (fn : Func) (hf : Tryz.pinned.checked.prog.funcNamed "hasp/hasplaw13.ParseReads" = some f) (hfn : Tryz.pinned.checked.prog.funcs[f]? = some fn) :
    true = Tryz.pinned.checked.prog.looks [] ∧ ∀ (j : Nat) t, fn.params[j]? = some t → Tryz.pinned.checked.prog.wantsStandIn t = false := by
  obtain rfl : f = 3 := Option.some.inj ((show Tryz.prog.funcNamed "hasp/hasplaw13.ParseReads" = some 3 by kernel_rfl).symm.trans hf) |>.symm
  obtain rfl : fn = Tryz.f3 := (Option.some.inj (Tryz.func3.symm.trans hfn)).symm
  refine ⟨by kernel_rfl, fun j t ht => ?_⟩
  rw [Tryz.params3] at ht
  have hm : t ∈ ([9] : List TypeId) := by simpa using Array.mem_of_getElem? ht
  have hall : (([9] : List TypeId).all fun u => !Tryz.prog.wantsStandIn u) = true := by kernel_rfl
  exact (show Tryz.prog.wantsStandIn t = false by simpa using List.all_eq_true.1 hall t hm)

theorem proved : Rows.ParseReadsCardSaid :=
  Claim7.holds_tied_plain_at .later [] _ _ _ _ said (fun _ h => by cases h) (by kernel_rfl) (fun _ h => by cases h) parseReads_row_tie rfl ⟨rfl, rfl⟩ (by kernel_rfl) rfl plain (by kernel_rfl)
end Go.Proofs.YtofnkfjhmjecjaaGreatDoor.parseReads
