/-
  LocksClean answers true at any script of a bulk of at most 1048576: at every moment the modes of any two transactions' locks of one thing go together, and nobody has one thing twice.
  Conditions: none but the row's own; the listed variables hold what the program's text lays (the card ties them).
-/
import Derived.Test.YtochopjcdlblmaaDoorZm1
import Derived.Test.YtochopjcdlblmaaDoorCards
import Derived.Test.YtochopjcdlblmaaDoorTie
import Derived.WalkKit
import Derived.ProofKit
import Derived.OpenShut
import Derived.ShutString
import Derived.ChangeOld
import Derived.Below
import Derived.Carry
import Derived.Deep.DeepHandedRow
import Derived.Deep.DeepWitnessRowRef
import Derived.Lib.LaidTab
namespace Go.Proofs.YtochopjcdlblmaaDoor.locksClean
open Go.ChangeShapes Go.WideShapes Go.ChangeAt Go.RowKit
open Go.Joins
open Go.MapKept
set_option linter.unusedVariables false

theorem own : ownKnob Tryd.prog.godebug = none := by kernel_rfl
theorem laidOut : laidOutB Tryd.prog = true := by kernel_rfl

set_option maxRecDepth 100000 in

set_option maxHeartbeats 8000000 in
theorem walk {H : Type} {enc : TypeId × Value → H} (base : Nat) (v0 : Value) (d0 : DataW H) (p0 : List MemPlace) (W : World)
    (o0 : Value.okWide Tryd.prog W .any base 22 v0) (h0 : DataW.Trod enc Tryd.prog W 0 (fun _ => true) true 22 v0 d0 p0)
    (hk : Rows.uptoSmall H [d0] = true)
    (hL : laidMetH Tryd.prog Rows.locksCleanUptoRow.laid W) :
    Calls Tryd.prog 3 #[v0] W fun e w' => e = .returned (.bool true) ∧ Below W.heap.size W w' := by
  obtain ⟨a0, cap, ops, rfl, hm, hI, hwf⟩ := open_ops10 o0 h0 (up_arg hk (by simp))
  have hT : Tabs W := tabs_of_laid hL
  have HS := Lib.hid (speaks10_any W hT)
  have HWF := Lib.hid hwf
  obtain ⟨n, hn⟩ : ∃ n, ops.length = n := ⟨_, rfl⟩
  rw [hn] at hm ⊢
  have HN := Lib.hid hn
  clear o0 h0 hk hwf hn hL
  go_enter Tryd.func3, Tryd.ntmps3
  go_wp2_with fail
  refine HS.out.mono ?_
  rintro x w0 ⟨rfl, b0⟩
  have HI0 := Lib.hid (hI.below b0)
  have HB0 := Lib.hid b0
  have HNEW := Lib.hid (ta_new w0 (hT.below b0))
  clear HS hI b0 hT
  go_wp2_with fail
  refine HNEW.out.mono ?_
  rintro e w1 ⟨b, F1, rfl, hA1, -, -⟩
  have HA1 := Lib.hid hA1
  clear HNEW hA1
  go_wp2_with fail
  go_loopw [13] (fun i wx => ∃ (k : Nat) (F : Bl) (T : TbL RS), k ≤ n ∧ i = .int .i64 k ∧ sizT T ≤ k ∧ Hid (TbA w0 wx b F T)) (fun i _ => n - (intOf i).toNat)
  case atStart => exact ⟨0, F1, _, Nat.zero_le _, rfl, Nat.le_refl _, HA1⟩
  case round =>
    clear HA1
    obtain ⟨k, F, T, hkn, rfl, hsz, HA⟩ := hrel
    by_cases c : k < n
    · have c1 : (k : Int) < (n : Int) := by omega
      obtain ⟨x, hx⟩ : ∃ x, ops[k]? = some x := ⟨_, List.getElem?_eq_getElem (by rw [HN.out]; exact c)⟩
      obtain ⟨gb, go', rfl, g0, g1, g2, g3⟩ := (HI0.out.below HA.out.bel).at hx
      obtain ⟨W2, hW2⟩ : ∃ W2, wr.alloc (.cells #[.int .i64 x.kind, .int .i64 x.txn, .int .i64 x.mode, .string ⟨x.res.toArray⟩] 27) = W2 := ⟨_, rfl⟩
      have hb2 : Below wr.heap.size wr W2 := by rw [← hW2]; exact (Below.refl _ _).alloc (Nat.le_refl _) _
      have hx2 : W2.heap[wr.heap.size]? = some (.cells #[.int .i64 x.kind, .int .i64 x.txn, .int .i64 x.mode, .string ⟨x.res.toArray⟩] 27 (0, 0)) := by rw [← hW2]; exact heap_alloc_new wr _
      have f0 : W2.cell? ⟨wr.heap.size, 0, none⟩ = some (.int .i64 x.kind) := by rw [cell_of_block hx2]; rfl
      have f1 : W2.cell? ⟨wr.heap.size, 1, none⟩ = some (.int .i64 x.txn) := by rw [cell_of_block hx2]; rfl
      have f2 : W2.cell? ⟨wr.heap.size, 2, none⟩ = some (.int .i64 x.mode) := by rw [cell_of_block hx2]; rfl
      have f3 : W2.cell? ⟨wr.heap.size, 3, none⟩ = some (.string ⟨x.res.toArray⟩) := by rw [cell_of_block hx2]; rfl
      have HA2 := Lib.hid (HA.out.below hb2)
      have HOK := Lib.hid (HWF.out x (List.mem_of_getElem? hx))
      have hkw : IntKind.i64.wrap ((k : Int) + 1) = ((k + 1 : Nat) : Int) := by rw [IntWalk.i64_in _ (by omega)]; omega
      have HSA := Lib.hid (show sizT (askL ordT mds T x.txn x.res x.mode).1 ≤ k + 1 from Nat.le_trans (siz_ask ordT mds T x.txn x.res x.mode) (by omega))
      have HSD := Lib.hid (show sizT (dropL ordT mds T x.txn).1 ≤ k + 1 from Nat.le_trans (siz_drop ordT mds HA.out.inv x.txn) (by omega))
      have HASK := Lib.hid (HA2.out.ask (by omega) HOK.out x.mode)
      have HDRP := Lib.hid (HA2.out.drop (by omega) x.txn)
      clear hx hb2 hx2
      go_upto_region 9 with fail
      try rw [hW2]
      clear hW2 g0 g1 g2 g3
      go_wp2_with fail
      all_goals first
      | (refine HASK.out.mono ?_
         rintro e w3 ⟨rfl, F3, hA3, -, -⟩
         have HA3 := Lib.hid hA3
         have HLK := Lib.hid (hA3.locks (by have := HSA.out; omega))
         clear hA3 HASK HDRP
         go_wp2_with fail
         refine HLK.out.mono ?_
         rintro e w4 ⟨vl, rfl, hol, hb4⟩
         have HA4 := Lib.hid (HA3.out.below hb4)
         have HCL := Lib.hid (rclean_any w4 _ vl _ hol (clean_of HA3.out.inv))
         clear hol hb4 HLK
         go_wp2_with fail
         refine HCL.out.mono ?_
         rintro e w5 ⟨rfl, hb5⟩
         have HA5 := Lib.hid (HA4.out.below hb5)
         clear hb5 HCL
         go_wp2_with fail
         go_roundw
         case rel => exact ⟨k + 1, F3, _, by omega, by first | rfl | go_num, HSA.out, HA5⟩
         case measure => simp [intOf]; omega)
      | (refine HDRP.out.mono ?_
         rintro e w3 ⟨v3, F3, rfl, hA3, -, -, -, -⟩
         have HA3 := Lib.hid hA3
         have HLK := Lib.hid (hA3.locks (by have := HSD.out; omega))
         clear hA3 HASK HDRP
         go_wp2_with fail
         refine HLK.out.mono ?_
         rintro e w4 ⟨vl, rfl, hol, hb4⟩
         have HA4 := Lib.hid (HA3.out.below hb4)
         have HCL := Lib.hid (rclean_any w4 _ vl _ hol (clean_of HA3.out.inv))
         clear hol hb4 HLK
         go_wp2_with fail
         refine HCL.out.mono ?_
         rintro e w5 ⟨rfl, hb5⟩
         have HA5 := Lib.hid (HA4.out.below hb5)
         clear hb5 HCL
         go_wp2_with fail
         go_roundw
         case rel => exact ⟨k + 1, F3, _, by omega, by first | rfl | go_num, HSD.out, HA5⟩
         case measure => simp [intOf]; omega)
    · obtain rfl : k = n := by omega
      have cf : decide ((k : Int) < (k : Int)) = false := by simp
      have HB := Lib.hid (HB0.out.trans (HA.out.bel.mono HB0.out.size))
      go_wp2_with fail
      go_ret
      exact ⟨rfl, HB.out⟩

/-- a world for the witness: the listed variables hold what is laid -/
noncomputable def laidWorld (os : Os) : World :=
  { World.holding Tryd.prog os ⟨#[], #[], []⟩ with heap := (((World.holding Tryd.prog os ⟨#[], #[], []⟩).heap.modify 1 fun
      | .cells _ t frozen => .cells #[.bool true, .bool true, .bool true, .bool true, .bool true, .bool true, .bool true, .bool true, .bool true, .bool true, .bool true, .bool true, .bool true, .bool false, .bool true, .bool true, .bool true, .bool false, .bool false, .bool false, .bool false, .bool true, .bool true, .bool false, .bool true, .bool false, .bool true, .bool false, .bool true, .bool true, .bool false, .bool false, .bool false, .bool false, .bool false, .bool true, .bool true, .bool false, .bool true, .bool false, .bool false, .bool false, .bool true, .bool false, .bool false, .bool false, .bool false, .bool false, .bool false] t frozen
      | o => o).modify 0 fun
      | .cells _ t frozen => .cells #[.bool true, .bool false, .bool false, .bool false, .bool false, .bool false, .bool false, .bool true, .bool true, .bool false, .bool false, .bool false, .bool false, .bool false, .bool true, .bool true, .bool true, .bool false, .bool false, .bool false, .bool false, .bool true, .bool true, .bool false, .bool true, .bool false, .bool false, .bool false, .bool true, .bool true, .bool true, .bool true, .bool true, .bool false, .bool false, .bool true, .bool true, .bool false, .bool true, .bool false, .bool true, .bool false, .bool true, .bool true, .bool true, .bool true, .bool true, .bool true, .bool true] t frozen
      | o => o) }
theorem laid_met (os : Os) : laidMetH Tryd.prog Rows.locksCleanUptoRow.laid ((laidWorld os).forCall (fun _ _ => 0) ⟨#[], #[.slice none 0 0], []⟩).memory :=
  laidMet_of_run' 8 (by kernel_rfl) (by kernel_rfl)
theorem reads (os : Os) {H : Type} (enc : TypeId × Value → H) : ∃ places, DataW.whole enc Tryd.prog ((laidWorld os).forCall (fun _ _ => 0) ⟨#[], #[.slice none 0 0], []⟩).memory Tryd.f3.params.toList Rows.locksCleanSpec.vars false (#[.slice none 0 0] : Array Value).toList 8 = some ([.nil], [], places) :=
  ⟨[], by kernel_rfl⟩

set_option maxRecDepth 100000 in
theorem lifted (os : Os) (started : os.Started) (H : Type) (enc : TypeId × Value → H) (F : Stop.Interp) :
    ReturnsInHanded {} Tryd.checked os 3 .any ((Rows.OpenSpec.upto Rows.locksCleanSpec).preRow enc Tryd.prog Tryd.f3 Rows.locksCleanUptoRow.domain false Rows.locksCleanUptoRow.laid) (((Rows.OpenSpec.upto Rows.locksCleanSpec).at F).post enc Tryd.prog Tryd.f3 false true false false) := by
  obtain ⟨places, hx⟩ := reads os enc
  refine returnsInHanded_of_row (C := Tryd.checked) (s := (Rows.OpenSpec.upto Rows.locksCleanSpec)) own started (by kernel_rfl) Tryd.func3
    (witness_row_at (enc := enc) (C := Tryd.checked) false (laidWorld os) #[.slice none 0 0] rfl (by kernel_rfl) (by kernel_rfl) (by kernel_rfl)
      (OpenSpec.preRow_of_cond 8 hx (by kernel_rfl) (fun k hk => by cases hk; kernel_rfl) (by kernel_rfl) (laid_met os))) ?_
  intro W base args ds gs before hval0 hW _ hcond _ hL _ _
  have hval : ∀ (j : Nat) t v, Tryd.f3.params[j]? = some t → args[j]? = some v → Value.okWide Tryd.prog W .any base t v := hval0
  have hW' := hW
  obtain ⟨p, q, hA0, hV, rfl, hfz, hnd⟩ := hW
  have hA : DataW.TrodAll enc Tryd.prog W 0 (fun _ => true) true Tryd.f3.params.toList args.toList ds p := hA0
  rw [Tryd.params3] at hA hval
  obtain ⟨v0, vs0, d0, ds0, p0, q0, hargs, rfl, rfl, h0, r0⟩ := trodAll_cons hA
  obtain ⟨rfl, rfl, rfl⟩ := trodAll_nil r0
  obtain rfl : args = #[v0] := by cases args; simp_all
  obtain ⟨rfl, rfl⟩ := trodVars_none hV
  have hk : Rows.uptoSmall H [d0] = true := hcond _ rfl
  have lt0 : ∀ x ∈ p0, x.block < W.heap.size := by obtain ⟨m, hm⟩ := h0; exact DataW.trod_lt m _ _ _ hm
  refine (walk (enc := enc) base v0 d0 p0 W (hval 0 22 v0 rfl rfl) h0 hk hL).mono fun e W' ⟨he, bel⟩ => ?_
  subst he
  exact ⟨_, rfl, _, _, _, [], _, [], hW', trodAll_mk1 (shut_bool Tryd.underlying4 _), (trodAll_cons_mk (Below.trod laidOut (by kernel_rfl) (of_decide_eq_true (by kernel_rfl)) h0 bel lt0) trodAll_mk0), rfl, bel.frame _, fun h => by cases h⟩

theorem said : Rows.LocksCleanUptoSaid :=
  OpenClaim.holds_of_cond 3 Tryd.f3 rfl rfl rfl rfl rfl rfl rfl ⟨rfl, rfl, rfl, rfl, rfl⟩ rfl rfl rfl rfl rfl (by kernel_rfl) Tryd.func3 (by kernel_rfl)
    (of_decide_eq_true (by kernel_rfl)) (by unfold Func.isWrapper; first | (rw [if_pos (by decide +kernel)]; kernel_rfl) | (rw [if_neg (by decide +kernel)]; exact ⟨rfl, rfl⟩))
    (fun os started H enc _ F => by rw [OpenClaim.pre_eq_preRow]; exact lifted os started H enc F)
theorem plain (f : FuncId) (fn : Func) (hf : Tryd.pinned.checked.prog.funcNamed "hasp/hasplaw10.LocksClean" = some f) (hfn : Tryd.pinned.checked.prog.funcs[f]? = some fn) :
    false = Tryd.pinned.checked.prog.looks [] ∧ ∀ (j : Nat) t, fn.params[j]? = some t → Tryd.pinned.checked.prog.wantsStandIn t = false := by
  obtain rfl : f = 3 := Option.some.inj ((show Tryd.prog.funcNamed "hasp/hasplaw10.LocksClean" = some 3 by kernel_rfl).symm.trans hf) |>.symm
  obtain rfl : fn = Tryd.f3 := (Option.some.inj (Tryd.func3.symm.trans hfn)).symm
  refine ⟨by kernel_rfl, fun j t ht => ?_⟩
  rw [Tryd.params3] at ht
  have hm : t ∈ ([22] : List TypeId) := by simpa using Array.mem_of_getElem? ht
  have hall : (([22] : List TypeId).all fun u => !Tryd.prog.wantsStandIn u) = true := by kernel_rfl
  exact (show Tryd.prog.wantsStandIn t = false by simpa using List.all_eq_true.1 hall t hm)

theorem proved : Rows.LocksCleanUptoCardSaid :=
  Claim7.holds_tied_plain_at .later [] _ _ _ _ said (fun _ h => by cases h) (by kernel_rfl) (fun _ h => by cases h) locksCleanUpto_row_tie rfl ⟨rfl, rfl⟩ (by kernel_rfl) rfl plain (by kernel_rfl)
end Go.Proofs.YtochopjcdlblmaaDoor.locksClean
