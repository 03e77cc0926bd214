/-
  LexWords answers true at any text: whether it is reserved, or can be a name, is told exactly, and a name is one token.
  Conditions: none but the row's own; the listed variables hold what the program's text lays (the card ties them).
-/
import Derived.Test.YthdihflnanmdkabDoorLx30
import Derived.Test.YthdihflnanmdkabDoorLx31
import Derived.Test.YthdihflnanmdkabDoorLx35
import Derived.Test.YthdihflnanmdkabDoorCards
import Derived.Test.YthdihflnanmdkabDoorTie
import Derived.WalkKit
import Derived.ProofKit
import Derived.OpenShut
import Derived.ShutString
import Derived.ChangeOld
import Derived.Below
import Derived.Carry
import Derived.Deep.DeepHandedRow
import Derived.Deep.DeepWitnessRowRef
import Derived.Lib.LaidTab
namespace Go.Proofs.YthdihflnanmdkabDoor.lexWords
open Go.ChangeShapes Go.WideShapes Go.ChangeAt Go.RowKit
open Go.Joins
set_option linter.unusedVariables false

theorem own : ownKnob Tryd.prog.godebug = none := by kernel_rfl
theorem laidOut : laidOutB Tryd.prog = true := by kernel_rfl

set_option maxRecDepth 100000 in

set_option maxHeartbeats 4000000 in
theorem walk {H : Type} {enc : TypeId × Value → H} (base : Nat) (v0 : Value) (d0 : DataW H) (p0 : List MemPlace) (W : World)
    (o0 : Value.okWide Tryd.prog W .any base 9 v0) (h0 : DataW.Trod enc Tryd.prog W 0 (fun _ => true) true 9 v0 d0 p0)
    (hL : laidMetH Tryd.prog Rows.lexWordsRow.laid W) :
    Calls Tryd.prog 3 #[v0] W fun e w' => e = .returned (.bool true) ∧ Below W.heap.size W w' := by
  obtain ⟨s, rfl, hsz⟩ := open_str o0
  have hE := errr_of_laid hL
  have HE := Lib.hid hE
  have HS := Lib.hid (speaks12_any W hE)
  clear hL hE o0 h0
  go_enter Tryd.func3, Tryd.ntmps3
  go_wp2_with fail
  refine HS.out.mono ?_
  rintro e w0 ⟨rfl, b0⟩
  have B0 := Lib.hid b0
  have HE0 := Lib.hid (HE.out.below b0)
  clear b0
  have HR1 := Lib.hid (res_any s w0)
  have HR2 := Lib.hid (rres_any s w0)
  obtain ⟨r, hr⟩ : ∃ r, resB s = r := ⟨_, rfl⟩
  rw [hr] at HR1 HR2
  clear hr
  have hrr : (r != r) = false := by simp
  go_wp2_with fail
  try go_at_call 7
  refine HR1.out.mono ?_
  rintro e w' ⟨rfl, rfl⟩
  go_wp2_with fail
  try go_at_call 8
  refine HR2.out.mono ?_
  rintro e w1 ⟨rfl, b1⟩
  have B1 := Lib.hid (B0.out.trans (b1.mono B0.out.size))
  have HE1 := Lib.hid (HE0.out.below b1)
  clear b1
  have HN1 := Lib.hid (name_any s w1)
  have hnt := name_tok s
  obtain ⟨nm, hnm⟩ : ∃ nm, nameB s = nm := ⟨_, rfl⟩
  rw [hnm] at HN1 hnt
  have HNT := Lib.hid hnt
  have HNM := Lib.hid hnm
  clear hnt hnm
  have hnn : (nm != nm) = false := by simp
  go_wp2_with fail
  try go_at_call 9
  refine HN1.out.mono ?_
  rintro e w2 ⟨rfl, b2⟩
  have B2 := Lib.hid (B1.out.trans (b2.mono B1.out.size))
  have HE2 := Lib.hid (HE1.out.below b2)
  clear b2
  have HN2 := Lib.hid (rname_any s w2)
  rw [HNM.out] at HN2
  go_wp2_with fail
  try go_at_call 10
  refine HN2.out.mono ?_
  rintro e w3 ⟨rfl, b3⟩
  have B3 := Lib.hid (B2.out.trans (b3.mono B2.out.size))
  have HE3 := Lib.hid (HE2.out.below b3)
  clear b3
  have HT := Lib.hid (tokens_any s w3 HE3.out)
  go_wp2_with fail
  try go_at_call 11
  refine HT.out.mono ?_
  rintro e w4 ⟨b4, he⟩
  have B4 := Lib.hid (B3.out.trans (b4.mono B3.out.size))
  have HN4 := Lib.hid (name_any s w4)
  rw [HNM.out] at HN4
  clear b4
  cases nm with
  | true =>
    rw [HNT.out rfl] at he
    obtain ⟨v, rfl, o⟩ := he
    obtain ⟨a, cap, rfl, hf⟩ := o.form
    rcases hf with ⟨_, e, _⟩ | ⟨g, rfl, _, hg, _, hc⟩
    · cases e
    have HC := Lib.hid (And.intro hg hc)
    clear hc hg o
    go_wp2_with fail
    try go_at_call 9
    refine HN4.out.mono ?_
    rintro e w5 ⟨rfl, b5⟩
    have c0 : w5.cell? ⟨g, 0, none⟩ = some (.int .i64 1) := (b5.cell (p := ⟨g, 0, none⟩) HC.out.1).trans (HC.out.2 0 _ rfl)
    have c1 : w5.cell? ⟨g, 1, none⟩ = some (.string s) := (b5.cell (p := ⟨g, 1, none⟩) HC.out.1).trans (by rw [HC.out.2 1 _ rfl, strB_sl])
    have c2 : w5.cell? ⟨g, 2, none⟩ = some (.int .i64 0) := (b5.cell (p := ⟨g, 2, none⟩) HC.out.1).trans (HC.out.2 2 _ rfl)
    have c3 : w5.cell? ⟨g, 3, none⟩ = some (.int .i64 0) := (b5.cell (p := ⟨g, 3, none⟩) HC.out.1).trans (HC.out.2 3 _ rfl)
    have B5 := Lib.hid (B4.out.trans (b5.mono B4.out.size))
    clear b5
    go_wp2_with fail
    go_ret
    exact ⟨rfl, B5.out⟩
  | false =>
    have hform : ∃ a n cap q, e = .returned (.tuple #[.slice a n cap, .int .i64 q]) := by
      cases hx : toksE (sl s) with
      | error er => rw [hx] at he; exact ⟨_, _, _, _, he⟩
      | ok ts =>
        rw [hx] at he
        obtain ⟨v, he, o⟩ := he
        obtain ⟨a, cap, rfl, _⟩ := o.form
        exact ⟨_, _, _, _, he⟩
    obtain ⟨a, n, cap, q, rfl⟩ := hform
    clear he
    go_wp2_with fail
    try go_at_call 9
    refine HN4.out.mono ?_
    rintro e w5 ⟨rfl, b5⟩
    have B5 := Lib.hid (B4.out.trans (b5.mono B4.out.size))
    clear b5
    go_wp2_with fail
    go_ret
    exact ⟨rfl, B5.out⟩

/-- a world for the witness: the listed variables hold what is laid -/
noncomputable def laidWorld (os : Os) : World := lxWorld os
theorem laid_met (os : Os) : laidMetH Tryd.prog Rows.lexWordsRow.laid ((laidWorld os).forCall (fun _ _ => 0) ⟨#[], #[.string ByteArray.empty], []⟩).memory := by
  show laidMetH Tryd.prog lxLaid _
  rw [lx_nohandle]
  exact laidMet.of_heap (w := lxWorld os) rfl (lx_met os)
theorem reads (os : Os) {H : Type} (enc : TypeId × Value → H) : ∃ places, DataW.whole enc Tryd.prog ((laidWorld os).forCall (fun _ _ => 0) ⟨#[], #[.string ByteArray.empty], []⟩).memory Tryd.f3.params.toList Rows.lexWordsSpec.vars false (#[.string ByteArray.empty] : Array Value).toList 8 = some ([.lit (.string [])], [], places) :=
  ⟨[], by kernel_rfl⟩

set_option maxRecDepth 100000 in
theorem lifted (os : Os) (started : os.Started) (H : Type) (enc : TypeId × Value → H) (F : Stop.Interp) :
    ReturnsInHanded {} Tryd.checked os 3 .any ((OpenSpec.ofChange Rows.lexWordsSpec).preRow enc Tryd.prog Tryd.f3 Rows.lexWordsRow.domain false Rows.lexWordsRow.laid) (((OpenSpec.ofChange Rows.lexWordsSpec).at F).post enc Tryd.prog Tryd.f3 false true false false) := by
  obtain ⟨places, hx⟩ := reads os enc
  refine returnsInHanded_of_row (C := Tryd.checked) (s := (OpenSpec.ofChange Rows.lexWordsSpec)) own started (by kernel_rfl) Tryd.func3
    (witness_row_atRef (enc := enc) (C := Tryd.checked) false (laidWorld os) #[.string ByteArray.empty] rfl (by kernel_rfl) (by kernel_rfl) (by kernel_rfl)
      (OpenSpec.preRow_of_cond 8 hx (by kernel_rfl) (fun k hk => by cases hk) (by kernel_rfl) (laid_met os))) ?_
  intro W base args ds gs before hval0 hW _ hcond _ hL _ _
  have hval : ∀ (j : Nat) t v, Tryd.f3.params[j]? = some t → args[j]? = some v → Value.okWide Tryd.prog W .any base t v := hval0
  have hW' := hW
  obtain ⟨p, q, hA0, hV, rfl, hfz, hnd⟩ := hW
  have hA : DataW.TrodAll enc Tryd.prog W 0 (fun _ => true) true Tryd.f3.params.toList args.toList ds p := hA0
  rw [Tryd.params3] at hA hval
  obtain ⟨v0, vs0, d0, ds0, p0, q0, hargs, rfl, rfl, h0, r0⟩ := trodAll_cons hA
  obtain ⟨rfl, rfl, rfl⟩ := trodAll_nil r0
  obtain rfl : args = #[v0] := by cases args; simp_all
  obtain ⟨rfl, rfl⟩ := trodVars_none hV
  have lt0 : ∀ x ∈ p0, x.block < W.heap.size := by obtain ⟨m, hm⟩ := h0; exact DataW.trod_lt m _ _ _ hm
  refine (walk (enc := enc) base v0 d0 p0 W (hval 0 9 v0 rfl rfl) h0 hL).mono fun e W' ⟨he, bel⟩ => ?_
  subst he
  exact ⟨_, rfl, _, _, _, [], _, [], hW', trodAll_mk1 (shut_bool Tryd.underlying4 _), (trodAll_cons_mk (Below.trod laidOut (by kernel_rfl) (of_decide_eq_true (by kernel_rfl)) h0 bel lt0) trodAll_mk0), rfl, bel.frame _, fun h => by cases h⟩

theorem said : Rows.LexWordsSaid :=
  OpenClaim.holds_of_cond 3 Tryd.f3 rfl rfl rfl rfl rfl rfl rfl ⟨rfl, rfl, rfl, rfl, rfl⟩ rfl rfl rfl rfl rfl (by kernel_rfl) Tryd.func3 (by kernel_rfl)
    (of_decide_eq_true (by kernel_rfl)) (by unfold Func.isWrapper; first | (rw [if_pos (by decide +kernel)]; kernel_rfl) | (rw [if_neg (by decide +kernel)]; exact ⟨rfl, rfl⟩))
    (fun os started H enc _ F => by rw [OpenClaim.pre_eq_preRow]; exact lifted os started H enc F)
theorem plain (f : FuncId) (fn : Func) (hf : Tryd.pinned.checked.prog.funcNamed "hasp/hasplaw12.LexWords" = some f) (hfn : Tryd.pinned.checked.prog.funcs[f]? = some fn) :
    true = Tryd.pinned.checked.prog.looks [] ∧ ∀ (j : Nat) t, fn.params[j]? = some t → Tryd.pinned.checked.prog.wantsStandIn t = false := by
  obtain rfl : f = 3 := Option.some.inj ((show Tryd.prog.funcNamed "hasp/hasplaw12.LexWords" = some 3 by kernel_rfl).symm.trans hf) |>.symm
  obtain rfl : fn = Tryd.f3 := (Option.some.inj (Tryd.func3.symm.trans hfn)).symm
  refine ⟨by kernel_rfl, fun j t ht => ?_⟩
  rw [Tryd.params3] at ht
  have hm : t ∈ ([9] : List TypeId) := by simpa using Array.mem_of_getElem? ht
  have hall : (([9] : List TypeId).all fun u => !Tryd.prog.wantsStandIn u) = true := by kernel_rfl
  exact (show Tryd.prog.wantsStandIn t = false by simpa using List.all_eq_true.1 hall t hm)

theorem proved : Rows.LexWordsCardSaid :=
  Claim7.holds_tied_plain_at .later [] _ _ _ _ said (fun _ h => by cases h) (by kernel_rfl) (fun _ h => by cases h) lexWords_row_tie rfl ⟨rfl, rfl⟩ (by kernel_rfl) rfl plain (by kernel_rfl)
end Go.Proofs.YthdihflnanmdkabDoor.lexWords
