/-
  HeapWalks answers true at any number and any list of numbers, of a bulk of at most 1048576: going behind number after number meets every row once, in rising order.
  Conditions: none but the row's own; the listed variables hold what the program's text lays (the card ties them).
-/
import Derived.Test.YtmmchhlfbhbigaaDoorMh1
import Derived.Test.YtmmchhlfbhbigaaDoorCards
import Derived.Test.YtmmchhlfbhbigaaDoorTie
import Derived.WalkKit
import Derived.ProofKit
import Derived.OpenShut
import Derived.ShutString
import Derived.ChangeOld
import Derived.Below
import Derived.Carry
import Derived.Deep.DeepHandedRow
import Derived.Lib.LaidTab
namespace Go.Proofs.YtmmchhlfbhbigaaDoor.heapWalks
open Go.ChangeShapes Go.WideShapes Go.ChangeAt Go.RowKit
open Go.Joins
set_option linter.unusedVariables false

theorem own : ownKnob Tryd.prog.godebug = none := by kernel_rfl
theorem laidOut : laidOutB Tryd.prog = true := by kernel_rfl

set_option maxRecDepth 100000 in

set_option maxHeartbeats 4000000 in
theorem walk {H : Type} {enc : TypeId × Value → H} (base : Nat) (v0 : Value) (d0 : DataW H) (p0 : List MemPlace) (v1 : Value) (d1 : DataW H) (p1 : List MemPlace) (W : World)
    (o0 : Value.okWide Tryd.prog W .any base 3 v0) (h0 : DataW.Trod enc Tryd.prog W 0 (fun _ => true) true 3 v0 d0 p0)
    (o1 : Value.okWide Tryd.prog W .any base 44 v1) (h1 : DataW.Trod enc Tryd.prog W 0 (fun _ => true) true 44 v1 d1 p1)
    (hk : Rows.uptoSmall H [d0, d1] = true)
    (hL : laidMetH Tryd.prog Rows.heapWalksUptoRow.laid W) :
    Calls Tryd.prog 4 #[v0, v1] W fun e w' => e = .returned (.bool true) ∧ Below W.heap.size W w' := by
  obtain ⟨n0, rfl, -, -⟩ := open_intb o0
  obtain ⟨a, m, cap, b, off, kf, rfl, hm, ha, hlt, hK⟩ := open_intsh o1 h1 (up_arg hk (by simp))
  obtain ⟨n, hn, hnn⟩ := and63 n0
  have hT := tabT_of_laid hL
  have HT := Lib.hid hT
  have HS := Lib.hid (speaks8_any W hT)
  have HK := Lib.hid hK
  have HLT := Lib.hid hlt
  clear o0 h0 o1 h1 hk hL hT hK hlt
  go_enter Tryd.func4, Tryd.ntmps4
  go_wp2_with fail
  refine HS.out.mono ?_
  rintro x w0 ⟨rfl, b0⟩
  have B0 := Lib.hid b0
  have HT0 := Lib.hid (HT.out.below b0)
  clear b0
  go_wp2_with fail
  refine (hc_new w0 HT0.out).mono ?_
  rintro x w1 ⟨gh, rfl, h1, -⟩
  have H1 := Lib.hid h1
  clear h1
  go_wp2_with fail
  go_loopw [6] (fun i wx => ∃ (k : Nat) (s : List Sl), k ≤ n ∧ i = .int .i64 k ∧ Hc w0 wx gh s (k : Int) (fun _ => False) ∧ s.length ≤ k ∧ WkH n s) (fun i _ => n - (intOf i).toNat)
  case atStart => exact ⟨0, [], Nat.zero_le _, rfl, H1.out, Nat.le_refl _, WkH.nil _⟩
  case round =>
    obtain ⟨k, s, hk1, rfl, hF, hs, hw⟩ := hrel
    by_cases q : k < n
    · have c1 : (k : Int) < (n : Int) := by omega
      have HF := Lib.hid hF
      have HW := Lib.hid (hw.add q)
      have w8 : IntKind.u8.wrap (k : Int) = (k : Int) := by rw [IntKind.wrap_u8]; omega
      clear hF hw H1
      go_wp2_with fail
      refine (hc_add (HF.out.to ((Below.refl _ _).alloc (Nat.le_refl _) _)) (by omega) (by omega) (key_box wr k (by omega) (k : Int) rfl) (fun j hj => .inl (.inr hj))).mono ?_
      rintro x w4 ⟨rfl, h4, -⟩
      have H4 := Lib.hid (h4.mono (K' := fun _ => False) (fun _ h => h.elim))
      have hln := (hLay_len ((k : Int) + 1) [k] s).1
      clear h4 w8 HF
      go_wp2_with fail
      exact ⟨⟨k + 1, _, by omega, by simp, by simpa using H4.out, by omega, HW.out⟩, by simp [intOf]; omega⟩
    · have c1 : ¬ (k : Int) < (n : Int) := by omega
      obtain rfl : n = k := by omega
      have HF := Lib.hid hF
      have HW := Lib.hid hw
      clear hF hw H1
      go_wp2_with fail
      go_loopw [37] (fun i wx => ∃ (k : Nat) (s : List Sl), k ≤ m ∧ i = .int .i64 k ∧ Hc w0 wx gh s (n : Int) (fun _ => False) ∧ s.length ≤ n ∧ WkH n s) (fun i _ => m - (intOf i).toNat)
      case atStart => exact ⟨0, s, Nat.zero_le _, rfl, HF.out, hs, HW.out⟩
      case round =>
        clear HF HW c1 q hs
        obtain ⟨k, s, hk1, rfl, hF, hs, hw⟩ := hrel
        by_cases q : k < m
        · have c1 : (k : Int) < (m : Int) := by omega
          obtain rfl : a = some ⟨b, off, none⟩ := by
            rcases ha with g | g
            · omega
            · exact g
          have hbw : Below W.heap.size W wr := B0.out.trans (hF.bel.mono B0.out.size)
          have d0 := (hbw.cell (p := ⟨b, off + k, none⟩) (HLT.out (by omega))).trans (HK.out k q)
          have HF := Lib.hid hF
          have HW := Lib.hid (hw.drop (kf k))
          have hdl := hDrop_len (kf k) s
          clear hF hw hbw
          go_wp2_with fail
          refine (hc_drop HF.out (by omega) (by omega) (kf k)).mono ?_
          rintro x w4 ⟨rfl, h4, -⟩
          have H4 := Lib.hid h4
          clear h4 HF
          go_wp2_with fail
          exact ⟨⟨k + 1, _, by omega, by simp, H4.out, by omega, HW.out⟩, by simp [intOf]; omega⟩
        · have c1 : ¬ (k : Int) < (m : Int) := by omega
          obtain rfl : m = k := by omega
          have HF := Lib.hid hF
          have HW := Lib.hid hw
          clear hF hw
          go_wp2_with fail
          go_loopw [9, 10] (fun mt at' wx => ∃ pr : Int, 0 ≤ pr ∧ pr ≤ (n : Int) ∧ mt = .int .i64 ((cle pr s : Nat) : Int) ∧ at' = .int .i64 pr ∧ Hc w0 wx gh s (n : Int) (fun _ => False)) (fun _ at' _ => n - (intOf at').toNat)
          case atStart => exact ⟨0, Int.le_refl _, by omega, by rw [cle_zero]; rfl, rfl, HF.out⟩
          case round =>
            clear HF
            obtain ⟨pr, hp0, hp1, rfl, rfl, hF⟩ := hrel
            have HF := Lib.hid hF
            have HOK := Lib.hid hF.ok.1
            clear hF
            have hcl := cle_le pr s
            have hll := hLen_le s
            by_cases p : 0 < hBeh pr 0 s
            · obtain ⟨p1, p2, p3, j, row, p4, p5⟩ := cle_next HOK.out p
              obtain ⟨hr1, hr2⟩ := HW.out _ (List.mem_of_getElem? p4) p
              obtain ⟨mm, hmm⟩ : ∃ mm, hBeh pr 0 s = mm := ⟨_, rfl⟩
              rw [hmm] at p p1 p2 p3 p4 p5 hr1 hr2
              simp only at hr1 hr2
              have HB := Lib.hid (hc_behind HF.out (by omega) pr (by unfold InI; omega))
              rw [hmm, decide_eq_true p] at HB
              obtain ⟨cc, hcc⟩ : ∃ cc, cle pr s = cc := ⟨_, rfl⟩
              rw [hcc] at p3 hcl
              rw [hcc]
              clear hmm hcc
              go_wp2_with fail
              refine HB.out.mono ?_
              rintro x w5 ⟨rfl, b5⟩
              have H5 := Lib.hid (HF.out.below b5)
              clear b5 HB HF
              go_wp2_with fail
              refine (hc_get H5.out mm).mono ?_
              rintro x w6 ⟨b6, ⟨g1, -⟩ | ⟨j2, row2, v6, g1, g2, g3, g4, rfl⟩⟩
              · exact absurd g1 (by rw [p5]; omega)
              have hj2 : j2 = j := by rw [p5] at g3; omega
              subst hj2
              have hrow : row2 = [(mm - 1).toNat] := by rw [p4] at g1; injection g1 with g1; injection g1 with _ g1; rw [← g1, hr1]
              subst hrow
              obtain ⟨g6, c6, rfl, k1, k2, k3, k4, k5⟩ := _root_.id g4
              have y0 := k3 0 (mm - 1).toNat rfl
              have H6 := Lib.hid (H5.out.below b6)
              have z1 : decide (mm ≤ pr) = false := by simp; omega
              have z2 : (((mm - 1).toNat : Nat) : Int) = mm - 1 := by omega
              rw [z2] at y0
              have z3 : IntKind.i64.wrap (mm - 1) = mm - 1 := by rw [IntKind.wrap_i64]; omega
              have z4 : decide ((n : Int) < (cc : Int)) = false := by simp; omega
              clear b6 g1 g2 g3 g4 k1 k2 k3 k4 k5 p4 p5 hr1 H5
              go_wp2_with fail
              exact ⟨⟨mm, by omega, by omega, by rw [p3]; simp, rfl, H6.out⟩, by simp [intOf]; omega⟩
            · have HB := Lib.hid (hc_behind HF.out (by omega) pr (by unfold InI; omega))
              have hend := cle_end p
              have p0 : hBeh pr 0 s = 0 := by
                rcases hBeh_spec pr s 0 (.inl rfl) with ⟨h1, -⟩ | ⟨-, -, h3, -⟩
                · exact h1
                · exact absurd h3 p
              rw [p0, show decide ((0 : Int) < 0) = false from rfl] at HB
              rw [hend]
              clear p0 p hend
              go_wp2_with fail
              refine HB.out.mono ?_
              rintro x w5 ⟨rfl, b5⟩
              have H5 := Lib.hid (HF.out.below b5)
              clear b5 HB HF
              go_wp2_with fail
              refine (hc_pages H5.out (by omega)).mono ?_
              rintro x w6 ⟨v6, rfl, o6, b6⟩
              obtain ⟨g6, c6, rfl, hg6, n6⟩ := o6.form
              have H6 := Lib.hid (H5.out.below b6)
              have N6 := Lib.hid n6
              have hsum := HOK.out.sum
              have hsh := OwI.short o6
              have PM := Lib.hid (fun k => sumH_take (l := hPages s) pages_mem k)
              obtain ⟨L, hL⟩ : ∃ L, hPages s = L := ⟨_, rfl⟩
              rw [hL] at N6 hsum PM hsh
              rw [hL]
              obtain ⟨np, hnp⟩ : ∃ np, L.length = np := ⟨_, rfl⟩
              rw [hnp] at hsh ⊢
              have hN := PM.out 0
              have HNP := Lib.hid hnp
              clear o6 b6 n6 hg6 H5 hL hnp
              go_wp2_with fail
              go_loopw [15, 91] (fun sm i wx => ∃ k : Nat, k ≤ np ∧ i = .int .i64 k ∧ sm = .int .i64 (sumH (L.take k)) ∧ wx = w6) (fun _ i _ => np - (intOf i).toNat)
              case atStart => exact ⟨0, Nat.zero_le _, rfl, rfl, rfl⟩
              case round =>
                obtain ⟨k, hk2, rfl, rfl, rfl⟩ := hrel
                have hP := PM.out k
                have hP1 := PM.out (k + 1)
                by_cases q2 : k < np
                · have c2 : (k : Int) < (np : Int) := by omega
                  have hx : L[k]? = some (L[k]'(by rw [HNP.out]; exact q2)) := List.getElem?_eq_getElem _
                  generalize L[k]'(by rw [HNP.out]; exact q2) = y at *
                  have d6 := N6.out.c k y hx
                  rw [Nat.zero_add] at d6
                  rw [sumH_next hx] at hP1
                  have e7 : IntKind.i64.wrap (sumH (L.take k) + y) = sumH (L.take k) + y := by rw [IntKind.wrap_i64]; omega
                  have HSN := Lib.hid (sumH_next hx)
                  clear hx
                  go_wp2_with fail
                  exact ⟨⟨k + 1, by omega, by simp, by rw [HSN.out], by trivial⟩, by simp [intOf]; omega⟩
                · have c2 : ¬ (k : Int) < (np : Int) := by omega
                  obtain rfl : np = k := by omega
                  have htl : L.take np = L := List.take_of_length_le (by rw [HNP.out]; exact Nat.le_refl _)
                  rw [htl, hsum]
                  have HBL := Lib.hid (B0.out.trans (H6.out.bel.mono B0.out.size))
                  clear hP hP1 htl
                  go_wp2_with fail
                  refine (hc_len H6.out).mono ?_
                  rintro x w7 ⟨rfl, rfl⟩
                  go_wp2_with fail
                  go_ret
                  exact ⟨rfl, HBL.out⟩

/-- a world for the witness: the listed variables hold what is laid -/
noncomputable def laidWorld (os : Os) : World :=
  { World.holding Tryd.prog os ⟨#[], #[], []⟩ with heap := ((World.holding Tryd.prog os ⟨#[], #[], []⟩).heap.modify 2 fun
      | .cells _ t frozen => .cells #[.int .u8 0, .int .u8 1, .int .u8 56, .int .u8 2, .int .u8 57, .int .u8 49, .int .u8 28, .int .u8 3, .int .u8 61, .int .u8 58, .int .u8 42, .int .u8 50, .int .u8 38, .int .u8 29, .int .u8 17, .int .u8 4, .int .u8 62, .int .u8 47, .int .u8 59, .int .u8 36, .int .u8 45, .int .u8 43, .int .u8 51, .int .u8 22, .int .u8 53, .int .u8 39, .int .u8 33, .int .u8 30, .int .u8 24, .int .u8 18, .int .u8 12, .int .u8 5, .int .u8 63, .int .u8 55, .int .u8 48, .int .u8 27, .int .u8 60, .int .u8 41, .int .u8 37, .int .u8 16, .int .u8 46, .int .u8 35, .int .u8 44, .int .u8 21, .int .u8 52, .int .u8 32, .int .u8 23, .int .u8 11, .int .u8 54, .int .u8 26, .int .u8 40, .int .u8 15, .int .u8 34, .int .u8 20, .int .u8 31, .int .u8 10, .int .u8 25, .int .u8 14, .int .u8 19, .int .u8 9, .int .u8 13, .int .u8 8, .int .u8 7, .int .u8 6] t frozen
      | o => o) }
theorem laid_met (os : Os) : laidMetH Tryd.prog Rows.heapWalksUptoRow.laid ((laidWorld os).forCall (fun _ _ => 0) ⟨#[], #[.int .i64 0, .slice none 0 0], []⟩).memory :=
  laidMet_of_run' 8 (by kernel_rfl) (by kernel_rfl)
theorem reads (os : Os) {H : Type} (enc : TypeId × Value → H) : ∃ places, DataW.whole enc Tryd.prog ((laidWorld os).forCall (fun _ _ => 0) ⟨#[], #[.int .i64 0, .slice none 0 0], []⟩).memory Tryd.f4.params.toList Rows.heapWalksSpec.vars false (#[.int .i64 0, .slice none 0 0] : Array Value).toList 8 = some ([.lit (.int .i64 0), .nil], [], places) :=
  ⟨[], by kernel_rfl⟩

set_option maxRecDepth 100000 in
theorem lifted (os : Os) (started : os.Started) (H : Type) (enc : TypeId × Value → H) (F : Stop.Interp) :
    ReturnsInHanded {} Tryd.checked os 4 .any ((Rows.OpenSpec.upto Rows.heapWalksSpec).preRow enc Tryd.prog Tryd.f4 Rows.heapWalksUptoRow.domain false Rows.heapWalksUptoRow.laid) (((Rows.OpenSpec.upto Rows.heapWalksSpec).at F).post enc Tryd.prog Tryd.f4 false true false false) := by
  obtain ⟨places, hx⟩ := reads os enc
  refine returnsInHanded_of_row (C := Tryd.checked) (s := (Rows.OpenSpec.upto Rows.heapWalksSpec)) own started (by kernel_rfl) Tryd.func4
    (witness_row_at (enc := enc) (C := Tryd.checked) false (laidWorld os) #[.int .i64 0, .slice none 0 0] rfl (by kernel_rfl) (by kernel_rfl) (by kernel_rfl)
      (OpenSpec.preRow_of_cond 8 hx (by kernel_rfl) (fun k hk => by cases hk; kernel_rfl) (by kernel_rfl) (laid_met os))) ?_
  intro W base args ds gs before hval0 hW _ hcond _ hL _ _
  have hval : ∀ (j : Nat) t v, Tryd.f4.params[j]? = some t → args[j]? = some v → Value.okWide Tryd.prog W .any base t v := hval0
  have hW' := hW
  obtain ⟨p, q, hA0, hV, rfl, hfz, hnd⟩ := hW
  have hA : DataW.TrodAll enc Tryd.prog W 0 (fun _ => true) true Tryd.f4.params.toList args.toList ds p := hA0
  rw [Tryd.params4] at hA hval
  obtain ⟨v0, vs0, d0, ds0, p0, q0, hargs, rfl, rfl, h0, r0⟩ := trodAll_cons hA
  obtain ⟨v1, vs1, d1, ds1, p1, q1, rfl, rfl, rfl, h1, r1⟩ := trodAll_cons r0
  obtain ⟨rfl, rfl, rfl⟩ := trodAll_nil r1
  obtain rfl : args = #[v0, v1] := by cases args; simp_all
  obtain ⟨rfl, rfl⟩ := trodVars_none hV
  have hk : Rows.uptoSmall H [d0, d1] = true := hcond _ rfl
  have lt0 : ∀ x ∈ p0, x.block < W.heap.size := by obtain ⟨m, hm⟩ := h0; exact DataW.trod_lt m _ _ _ hm
  have lt1 : ∀ x ∈ p1, x.block < W.heap.size := by obtain ⟨m, hm⟩ := h1; exact DataW.trod_lt m _ _ _ hm
  refine (walk (enc := enc) base v0 d0 p0 v1 d1 p1 W (hval 0 3 v0 rfl rfl) h0 (hval 1 44 v1 rfl rfl) h1 hk hL).mono fun e W' ⟨he, bel⟩ => ?_
  subst he
  exact ⟨_, rfl, _, _, _, [], _, [], hW', trodAll_mk1 (shut_bool Tryd.underlying4 _), (trodAll_cons_mk (Below.trod laidOut (by kernel_rfl) (of_decide_eq_true (by kernel_rfl)) h0 bel lt0) (trodAll_cons_mk (Below.trod laidOut (by kernel_rfl) (of_decide_eq_true (by kernel_rfl)) h1 bel lt1) trodAll_mk0)), rfl, bel.frame _, fun h => by cases h⟩

theorem said : Rows.HeapWalksUptoSaid :=
  OpenClaim.holds_of_cond 4 Tryd.f4 rfl rfl rfl rfl rfl rfl rfl ⟨rfl, rfl, rfl, rfl, rfl⟩ rfl rfl rfl rfl rfl (by kernel_rfl) Tryd.func4 (by kernel_rfl)
    (of_decide_eq_true (by kernel_rfl)) (by unfold Func.isWrapper; first | (rw [if_pos (by decide +kernel)]; kernel_rfl) | (rw [if_neg (by decide +kernel)]; exact ⟨rfl, rfl⟩))
    (fun os started H enc _ F => by rw [OpenClaim.pre_eq_preRow]; exact lifted os started H enc F)
theorem plain (f : FuncId) (fn : Func) (hf : Tryd.pinned.checked.prog.funcNamed "hasp/hasplaw08.HeapWalks" = some f) (hfn : Tryd.pinned.checked.prog.funcs[f]? = some fn) :
    false = Tryd.pinned.checked.prog.looks [] ∧ ∀ (j : Nat) t, fn.params[j]? = some t → Tryd.pinned.checked.prog.wantsStandIn t = false := by
  obtain rfl : f = 4 := Option.some.inj ((show Tryd.prog.funcNamed "hasp/hasplaw08.HeapWalks" = some 4 by kernel_rfl).symm.trans hf) |>.symm
  obtain rfl : fn = Tryd.f4 := (Option.some.inj (Tryd.func4.symm.trans hfn)).symm
  refine ⟨by kernel_rfl, fun j t ht => ?_⟩
  rw [Tryd.params4] at ht
  have hm : t ∈ ([3, 44] : List TypeId) := by simpa using Array.mem_of_getElem? ht
  have hall : (([3, 44] : List TypeId).all fun u => !Tryd.prog.wantsStandIn u) = true := by kernel_rfl
  exact (show Tryd.prog.wantsStandIn t = false by simpa using List.all_eq_true.1 hall t hm)

theorem proved : Rows.HeapWalksUptoCardSaid :=
  Claim7.holds_tied_plain_at .later [] _ _ _ _ said (fun _ h => by cases h) (by kernel_rfl) (fun _ h => by cases h) heapWalksUpto_row_tie rfl ⟨rfl, rfl⟩ (by kernel_rfl) rfl plain (by kernel_rfl)
end Go.Proofs.YtmmchhlfbhbigaaDoor.heapWalks
