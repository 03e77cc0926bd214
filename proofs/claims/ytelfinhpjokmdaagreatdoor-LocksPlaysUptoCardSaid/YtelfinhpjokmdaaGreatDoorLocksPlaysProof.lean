/-
  LocksPlays answers true at any script of a bulk of at most 1048576: every call on a table answers exactly as the document says, and leaves the document's locks, queues and edges.
  Conditions: none but the row's own; the listed variables hold what the program's text lays (the card ties them).
-/
import Derived.Test.YtelfinhpjokmdaaGreatDoorZp1
import Derived.Test.YtelfinhpjokmdaaGreatDoorCards
import Derived.Test.YtelfinhpjokmdaaGreatDoorTie
import Derived.WalkKit
import Derived.ProofKit
import Derived.OpenShut
import Derived.ShutString
import Derived.ChangeOld
import Derived.Below
import Derived.Carry
import Derived.Deep.DeepHandedRow
import Derived.Deep.DeepWitnessRowRef
import Derived.Lib.LaidTab
namespace Go.Proofs.YtelfinhpjokmdaaGreatDoor.locksPlays
open Go.ChangeShapes Go.WideShapes Go.ChangeAt Go.RowKit
open Go.Joins
open Go.MapKept
set_option linter.unusedVariables false

theorem own : ownKnob Tryz.prog.godebug = none := by kernel_rfl
theorem laidOut : laidOutB Tryz.prog = true := by kernel_rfl

set_option maxRecDepth 100000 in

set_option maxHeartbeats 16000000 in
theorem walk {H : Type} {enc : TypeId × Value → H} (base : Nat) (v0 : Value) (d0 : DataW H) (p0 : List MemPlace) (W : World)
    (o0 : Value.okWide Tryz.prog W .any base 22 v0) (h0 : DataW.Trod enc Tryz.prog W 0 (fun _ => true) true 22 v0 d0 p0)
    (hk : Rows.uptoSmall H [d0] = true)
    (hL : laidMetH Tryz.prog Rows.locksPlaysUptoRow.laid W) :
    Calls Tryz.prog 3 #[v0] W fun e w' => e = .returned (.bool true) ∧ Below W.heap.size W w' := by
  obtain ⟨a0, cap, ops, rfl, hm, hI, hwf⟩ := open_ops10 o0 h0 (up_arg hk (by simp))
  have hT : Tabs W := tabs_of_laid hL
  have HS := Lib.hid (speaks10_any W hT)
  have HWF := Lib.hid hwf
  obtain ⟨n, hn⟩ : ∃ n, ops.length = n := ⟨_, rfl⟩
  rw [hn] at hm ⊢
  have HN := Lib.hid hn
  clear o0 h0 hk hwf hn hL
  go_enter Tryz.func3, Tryz.ntmps3
  go_wp2_with fail
  refine HS.out.mono ?_
  rintro x w0 ⟨rfl, b0⟩
  have HI0 := Lib.hid (hI.below b0)
  have HB0 := Lib.hid b0
  have HNEW := Lib.hid (ta_new w0 (hT.below b0))
  clear HS hI b0 hT
  go_wp2_with fail
  refine HNEW.out.mono ?_
  rintro e w1 ⟨b, F1, rfl, hA1, hb1, -⟩
  obtain ⟨rb, hrb⟩ : ∃ rb, w1.heap.size = rb := ⟨_, rfl⟩
  obtain ⟨W2, hW2⟩ : ∃ W2, w1.alloc (.cells #[.slice none 0 0, .slice none 0 0] 30) = W2 := ⟨_, rfl⟩
  have hb2 : Below w1.heap.size w1 W2 := by rw [← hW2]; exact (Below.refl _ _).alloc (Nat.le_refl _) _
  have HPL := Lib.hid (show Pl w0 W2 b rb F1 ⟨[], []⟩ ⟨[], []⟩ (.slice none 0 0) (.slice none 0 0) from
    ⟨hA1.below hb2, ⟨by rw [← hW2, ← hrb]; exact heap_alloc_new w1 _, OwR.nil _ _, OwR.nil _ _, by rw [← hrb]; exact hb1.size⟩, fun k hk c => by
      rcases c with e | e | e
      · have := hA1.hi hk; omega
      · simp [Value.ownBlock] at e
      · simp [Value.ownBlock] at e⟩)
  clear HNEW hA1 hb1 hb2
  go_wp2_with fail
  try rw [hW2]
  try rw [hrb]
  clear hW2 hrb
  go_loopw [16] (fun i wx => ∃ (k : Nat) (F : Bl) (T : TbL RS) (vh vw : Value), k ≤ n ∧ i = .int .i64 k ∧ sizT T ≤ k ∧ Hid (Pl w0 wx b rb F T T vh vw)) (fun i _ => n - (intOf i).toNat)
  case atStart => exact ⟨0, F1, _, _, _, Nat.zero_le _, rfl, Nat.le_refl _, HPL⟩
  case round =>
    clear HPL
    obtain ⟨k, F, T, vh, vw, hkn, rfl, hsz, HA⟩ := hrel
    have hszb : sizT T ≤ 1000000 := by omega
    have HEB := Lib.hid (show ∀ U : TbL RS, sizT U ≤ n → U.wt.length * sizT U ≤ 549755813000 from fun U hU => by
      have h1 : U.wt.length ≤ 209715 := by unfold sizT at hU; omega
      exact Nat.le_trans (Nat.mul_le_mul h1 (show sizT U ≤ 209715 by omega)) (by decide))
    by_cases c : k < n
    · have c1 : (k : Int) < (n : Int) := by omega
      obtain ⟨x, hx⟩ : ∃ x, ops[k]? = some x := ⟨_, List.getElem?_eq_getElem (by rw [HN.out]; exact c)⟩
      obtain ⟨gb, go', rfl, g0, g1, g2, g3⟩ := (HI0.out.below HA.out.tb.bel).at hx
      obtain ⟨p, hp⟩ : ∃ p, wr.heap.size = p := ⟨_, rfl⟩
      obtain ⟨W2, hW2⟩ : ∃ W2, wr.alloc (.cells #[.int .i64 x.kind, .int .i64 x.txn, .int .i64 x.mode, .string ⟨x.res.toArray⟩] 32) = W2 := ⟨_, rfl⟩
      have hb2 : Below wr.heap.size wr W2 := by rw [← hW2]; exact (Below.refl _ _).alloc (Nat.le_refl _) _
      have HX := Lib.hid (show OpB W2 p x by rw [← hW2, ← hp]; exact ⟨heap_alloc_new wr _⟩)
      obtain ⟨f0, f1, f2, f3⟩ := HX.out.cells
      have HPF := Lib.hid (show ¬ F p ∧ ¬ blkD rb vh vw p from ⟨fun e => by have := HA.out.tb.hi e; omega, fun e => by have := (HA.out.rf.blk e).2; omega⟩)
      have HA2 := Lib.hid (HA.out.below hb2)
      have HOK := Lib.hid (HWF.out x (List.mem_of_getElem? hx))
      have hkw : IntKind.i64.wrap ((k : Int) + 1) = ((k + 1 : Nat) : Int) := by rw [IntWalk.i64_in _ (by omega)]; omega
      have HINV := Lib.hid HA.out.tb.inv
      have HSA := Lib.hid (show sizT (askL ordT mds T x.txn x.res x.mode).1 ≤ k + 1 from Nat.le_trans (siz_ask ordT mds T x.txn x.res x.mode) (by omega))
      have HSD := Lib.hid (show sizT (dropL ordT mds T x.txn).1 ≤ k + 1 from Nat.le_trans (siz_drop ordT mds HA.out.tb.inv x.txn) (by omega))
      have HASK := Lib.hid (fun (w' : World) (hb : Below W2.heap.size W2 w') => (HA2.out.below hb).tb.ask (by omega) HOK.out x.mode)
      have HDRP := Lib.hid (fun (w' : World) (hb : Below W2.heap.size W2 w') => (HA2.out.below hb).tb.drop (by omega) x.txn)
      have HZB := Lib.hid hszb
      have HKK := Lib.hid (show k + 1 ≤ n ∧ n * 5 ≤ 1048576 from ⟨c, hm⟩)
      clear hx hb2 hszb HA
      go_upto_region 9 with fail
      try rw [hW2]
      try rw [hp]
      clear hW2 hp g0 g1 g2 g3
      by_cases ck : bits .and .i64 x.kind 3 < 3
      · have ckb : decide (bits .and .i64 x.kind 3 < 3) = true := by simp [ck]
        go_wp2_with fail
        go_region_held3 (fun w' => w'.cell? ⟨p, 1, none⟩ = some (.int .i64 x.txn) ∧ w'.cell? ⟨p, 2, none⟩ = some (.int .i64 x.mode) ∧ w'.cell? ⟨p, 3, none⟩ = some (.string ⟨x.res.toArray⟩))
          (first | exact ⟨f1, f2, f3⟩ | exact ⟨e1, e2, e3⟩ | exact ⟨d1, d2, d3⟩)
          (first | (go_at_call 6; refine (HASK.out _ (by first | exact Below.refl _ _ | exact (Below.refl _ _).drew)).mono ?_; rintro e w3 ⟨rfl, F3, hA3, hf3, hn3⟩; have HA3 := Lib.hid ((HA2.out.below (Below.refl _ _).drew).ours hA3 hf3 hn3); have HX3 := Lib.hid ((HX.out.below (Below.refl _ _).drew).step hf3 HPF.out.1); obtain ⟨-, e1, e2, e3⟩ := HX3.out.cells; have HRA := Lib.hid (rask_any HA3.out.rf HINV.out HZB.out HA3.out.tb.bel.size x.txn x.res x.mode); clear hA3 hf3 hn3) | (go_at_call 7; refine HRA.out.mono ?_; rintro e w4 ⟨rfl, hg4⟩; obtain ⟨vh4, vw4, hA4, hf4⟩ := HA3.out.theirs (U' := (askL ordT mds T x.txn x.res x.mode).1) hg4; have HA4 := Lib.hid hA4; have HX4 := Lib.hid (HX3.out.step hf4 HPF.out.2); obtain ⟨-, d1, d2, d3⟩ := HX4.out.cells; clear hg4 hA4 hf4))
        all_goals
          have HSH := Lib.hid (shown_any HA4.out.tb HA4.out.rf (by have := HSA.out; have := HKK.out; omega) (HEB.out _ (by have := HSA.out; have := HKK.out; omega)) x.txn x.res)
          go_wp2_with fail
          refine HSH.out.mono ?_
          rintro e w5 ⟨rfl, hb5⟩
          have HA5 := Lib.hid (HA4.out.below hb5)
          clear hb5 HSH
          go_wp2_with fail
          go_roundw
          case rel => exact ⟨k + 1, F3, _, vh4, vw4, by omega, by first | rfl | go_num, HSA.out, HA5⟩
          case measure => simp [intOf]; omega
      · have ckb : decide (bits .and .i64 x.kind 3 < 3) = false := by simp [ck]
        go_wp2_with fail
        go_region_held3 (fun w' => w'.cell? ⟨p, 1, none⟩ = some (.int .i64 x.txn) ∧ w'.cell? ⟨p, 3, none⟩ = some (.string ⟨x.res.toArray⟩))
          (first | exact ⟨f1, f3⟩ | exact ⟨e1, e3⟩ | exact ⟨d1, d3⟩ | exact ⟨h1, h3⟩)
          (first | (go_at_call 9; refine (HDRP.out _ (by first | exact Below.refl _ _ | exact (Below.refl _ _).drew)).mono ?_; rintro e w3 ⟨v3, F3, rfl, hA3, hf3, hn3, hq3, hv3⟩; have HA3 := Lib.hid ((HA2.out.below (Below.refl _ _).drew).ours hA3 hf3 hn3); have HX3 := Lib.hid ((HX.out.below (Below.refl _ _).drew).step hf3 HPF.out.1); obtain ⟨-, e1, e2, e3⟩ := HX3.out.cells; have HQ3 := Lib.hid hq3; have HV3 := Lib.hid (show ∀ k, v3.ownBlock = some k → ¬ blkD rb vh vw k from fun k e c => by have h1 := (QR.lt hq3 k e).1; have h2 := (HA2.out.rf.blk c).2; have h3 : W2.drew.heap.size = W2.heap.size := rfl; omega); have HRA := Lib.hid (rdrop_any HA3.out.rf HINV.out HZB.out HA3.out.tb.bel.size x.txn); clear hA3 hf3 hn3 hq3 hv3) | (go_at_call 10; refine HRA.out.mono ?_; rintro e w4 ⟨v4, rfl, ho4, hg4⟩; obtain ⟨vh4, vw4, hA4, hf4⟩ := HA3.out.theirs (U' := (dropL ordT mds T x.txn).1) hg4; have HA4 := Lib.hid hA4; have HX4 := Lib.hid (HX3.out.step hf4 HPF.out.2); obtain ⟨-, d1, d2, d3⟩ := HX4.out.cells; have hss := sames_any w4 _ _ v3 v4 (dropL ordT mds T x.txn).2 (dropL ordT mds T x.txn).2 (HQ3.out.step hf4 HV3.out) (qi_of ho4); rw [decide_eq_true (rfl : (dropL ordT mds T x.txn).2 = (dropL ordT mds T x.txn).2)] at hss; have HSS := Lib.hid hss; clear hg4 hA4 hf4 ho4 hss) | (go_at_call 8; refine HSS.out.mono ?_; rintro e w5 ⟨rfl, hb5⟩; have HA5 := Lib.hid (HA4.out.below hb5); have HX5 := Lib.hid (HX4.out.below hb5); obtain ⟨-, h1, h2, h3⟩ := HX5.out.cells; clear hb5))
        all_goals
          have HSH := Lib.hid (shown_any HA5.out.tb HA5.out.rf (by have := HSD.out; have := HKK.out; omega) (HEB.out _ (by have := HSD.out; have := HKK.out; omega)) x.txn x.res)
          go_wp2_with fail
          refine HSH.out.mono ?_
          rintro e w6 ⟨rfl, hb6⟩
          have HA6 := Lib.hid (HA5.out.below hb6)
          clear hb6 HSH
          go_wp2_with fail
          go_roundw
          case rel => exact ⟨k + 1, F3, _, vh4, vw4, by omega, by first | rfl | go_num, HSD.out, HA6⟩
          case measure => simp [intOf]; omega
    · obtain rfl : k = n := by omega
      have cf : decide ((k : Int) < (k : Int)) = false := by simp
      have HSH := Lib.hid (shown_any HA.out.tb HA.out.rf hszb (HEB.out _ hsz) 0 [])
      go_wp2_with fail
      refine HSH.out.mono ?_
      rintro e w5 ⟨rfl, hb5⟩
      have HB := Lib.hid (HB0.out.trans ((HA.out.below hb5).tb.bel.mono HB0.out.size))
      clear hb5 HSH
      go_wp2_with fail
      go_ret
      exact ⟨rfl, HB.out⟩

/-- a world for the witness: the listed variables hold what is laid -/
noncomputable def laidWorld (os : Os) : World :=
  { World.holding Tryz.prog os ⟨#[], #[], []⟩ with heap := (((World.holding Tryz.prog os ⟨#[], #[], []⟩).heap.modify 1 fun
      | .cells _ t frozen => .cells #[.bool true, .bool true, .bool true, .bool true, .bool true, .bool true, .bool true, .bool true, .bool true, .bool true, .bool true, .bool true, .bool true, .bool false, .bool true, .bool true, .bool true, .bool false, .bool false, .bool false, .bool false, .bool true, .bool true, .bool false, .bool true, .bool false, .bool true, .bool false, .bool true, .bool true, .bool false, .bool false, .bool false, .bool false, .bool false, .bool true, .bool true, .bool false, .bool true, .bool false, .bool false, .bool false, .bool true, .bool false, .bool false, .bool false, .bool false, .bool false, .bool false] t frozen
      | o => o).modify 0 fun
      | .cells _ t frozen => .cells #[.bool true, .bool false, .bool false, .bool false, .bool false, .bool false, .bool false, .bool true, .bool true, .bool false, .bool false, .bool false, .bool false, .bool false, .bool true, .bool true, .bool true, .bool false, .bool false, .bool false, .bool false, .bool true, .bool true, .bool false, .bool true, .bool false, .bool false, .bool false, .bool true, .bool true, .bool true, .bool true, .bool true, .bool false, .bool false, .bool true, .bool true, .bool false, .bool true, .bool false, .bool true, .bool false, .bool true, .bool true, .bool true, .bool true, .bool true, .bool true, .bool true] t frozen
      | o => o) }
theorem laid_met (os : Os) : laidMetH Tryz.prog Rows.locksPlaysUptoRow.laid ((laidWorld os).forCall (fun _ _ => 0) ⟨#[], #[.slice none 0 0], []⟩).memory :=
  laidMet_of_run' 8 (by kernel_rfl) (by kernel_rfl)
theorem reads (os : Os) {H : Type} (enc : TypeId × Value → H) : ∃ places, DataW.whole enc Tryz.prog ((laidWorld os).forCall (fun _ _ => 0) ⟨#[], #[.slice none 0 0], []⟩).memory Tryz.f3.params.toList Rows.locksPlaysSpec.vars false (#[.slice none 0 0] : Array Value).toList 8 = some ([.nil], [], places) :=
  ⟨[], by kernel_rfl⟩

set_option maxRecDepth 100000 in
theorem lifted (os : Os) (started : os.Started) (H : Type) (enc : TypeId × Value → H) (F : Stop.Interp) :
    ReturnsInHanded {} Tryz.checked os 3 .any ((Rows.OpenSpec.upto Rows.locksPlaysSpec).preRow enc Tryz.prog Tryz.f3 Rows.locksPlaysUptoRow.domain false Rows.locksPlaysUptoRow.laid) (((Rows.OpenSpec.upto Rows.locksPlaysSpec).at F).post enc Tryz.prog Tryz.f3 false true false false) := by
  obtain ⟨places, hx⟩ := reads os enc
  refine returnsInHanded_of_row (C := Tryz.checked) (s := (Rows.OpenSpec.upto Rows.locksPlaysSpec)) own started (by kernel_rfl) Tryz.func3
    (witness_row_at (enc := enc) (C := Tryz.checked) false (laidWorld os) #[.slice none 0 0] rfl (by kernel_rfl) (by kernel_rfl) (by kernel_rfl)
      (OpenSpec.preRow_of_cond 8 hx (by kernel_rfl) (fun k hk => by cases hk; kernel_rfl) (by kernel_rfl) (laid_met os))) ?_
  intro W base args ds gs before hval0 hW _ hcond _ hL _ _
  have hval : ∀ (j : Nat) t v, Tryz.f3.params[j]? = some t → args[j]? = some v → Value.okWide Tryz.prog W .any base t v := hval0
  have hW' := hW
  obtain ⟨p, q, hA0, hV, rfl, hfz, hnd⟩ := hW
  have hA : DataW.TrodAll enc Tryz.prog W 0 (fun _ => true) true Tryz.f3.params.toList args.toList ds p := hA0
  rw [Tryz.params3] at hA hval
  obtain ⟨v0, vs0, d0, ds0, p0, q0, hargs, rfl, rfl, h0, r0⟩ := trodAll_cons hA
  obtain ⟨rfl, rfl, rfl⟩ := trodAll_nil r0
  obtain rfl : args = #[v0] := by cases args; simp_all
  obtain ⟨rfl, rfl⟩ := trodVars_none hV
  have hk : Rows.uptoSmall H [d0] = true := hcond _ rfl
  have lt0 : ∀ x ∈ p0, x.block < W.heap.size := by obtain ⟨m, hm⟩ := h0; exact DataW.trod_lt m _ _ _ hm
  refine (walk (enc := enc) base v0 d0 p0 W (hval 0 22 v0 rfl rfl) h0 hk hL).mono fun e W' ⟨he, bel⟩ => ?_
  subst he
  exact ⟨_, rfl, _, _, _, [], _, [], hW', trodAll_mk1 (shut_bool Tryz.underlying4 _), (trodAll_cons_mk (Below.trod laidOut (by kernel_rfl) (of_decide_eq_true (by kernel_rfl)) h0 bel lt0) trodAll_mk0), rfl, bel.frame _, fun h => by cases h⟩

theorem said : Rows.LocksPlaysUptoSaid :=
  OpenClaim.holds_of_cond 3 Tryz.f3 rfl rfl rfl rfl rfl rfl rfl ⟨rfl, rfl, rfl, rfl, rfl⟩ rfl rfl rfl rfl rfl (by kernel_rfl) Tryz.func3 (by kernel_rfl)
    (of_decide_eq_true (by kernel_rfl)) (by unfold Func.isWrapper; first | (rw [if_pos (by decide +kernel)]; kernel_rfl) | (rw [if_neg (by decide +kernel)]; exact ⟨rfl, rfl⟩))
    (fun os started H enc _ F => by rw [OpenClaim.pre_eq_preRow]; exact lifted os started H enc F)
theorem plain (f : FuncId) (fn : Func) (hf : Tryz.pinned.checked.prog.funcNamed "hasp/hasplaw10.LocksPlays" = some f) (hfn : Tryz.pinned.checked.prog.funcs[f]? = some fn) :
    false = Tryz.pinned.checked.prog.looks [] ∧ ∀ (j : Nat) t, fn.params[j]? = some t → Tryz.pinned.checked.prog.wantsStandIn t = false := by
  obtain rfl : f = 3 := Option.some.inj ((show Tryz.prog.funcNamed "hasp/hasplaw10.LocksPlays" = some 3 by kernel_rfl).symm.trans hf) |>.symm
  obtain rfl : fn = Tryz.f3 := (Option.some.inj (Tryz.func3.symm.trans hfn)).symm
  refine ⟨by kernel_rfl, fun j t ht => ?_⟩
  rw [Tryz.params3] at ht
  have hm : t ∈ ([22] : List TypeId) := by simpa using Array.mem_of_getElem? ht
  have hall : (([22] : List TypeId).all fun u => !Tryz.prog.wantsStandIn u) = true := by kernel_rfl
  exact (show Tryz.prog.wantsStandIn t = false by simpa using List.all_eq_true.1 hall t hm)

theorem proved : Rows.LocksPlaysUptoCardSaid :=
  Claim7.holds_tied_plain_at .later [] _ _ _ _ said (fun _ h => by cases h) (by kernel_rfl) (fun _ h => by cases h) locksPlaysUpto_row_tie rfl ⟨rfl, rfl⟩ (by kernel_rfl) rfl plain (by kernel_rfl)
end Go.Proofs.YtelfinhpjokmdaaGreatDoor.locksPlays
