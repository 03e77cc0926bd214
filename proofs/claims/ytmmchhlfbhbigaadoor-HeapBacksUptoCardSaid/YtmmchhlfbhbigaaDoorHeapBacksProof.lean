/-
  HeapBacks answers true at any script of calls and any number, of a bulk of at most 1048576: a row that goes and comes back under its number is the same row, and no other one has changed.
  Conditions: none but the row's own; the listed variables hold what the program's text lays (the card ties them).
-/
import Derived.Test.YtmmchhlfbhbigaaDoorMg8
import Derived.Test.YtmmchhlfbhbigaaDoorCards
import Derived.Test.YtmmchhlfbhbigaaDoorTie
import Derived.WalkKit
import Derived.ProofKit
import Derived.OpenShut
import Derived.ShutString
import Derived.ChangeOld
import Derived.Below
import Derived.Carry
import Derived.Deep.DeepHandedRow
import Derived.Lib.LaidTab
namespace Go.Proofs.YtmmchhlfbhbigaaDoor.heapBacks
open Go.ChangeShapes Go.WideShapes Go.ChangeAt Go.RowKit
open Go.Joins
set_option linter.unusedVariables false

theorem own : ownKnob Tryd.prog.godebug = none := by kernel_rfl
theorem laidOut : laidOutB Tryd.prog = true := by kernel_rfl

set_option maxRecDepth 100000 in

set_option maxHeartbeats 4000000 in
theorem walk {H : Type} {enc : TypeId × Value → H} (base : Nat) (v0 : Value) (d0 : DataW H) (p0 : List MemPlace) (v1 : Value) (d1 : DataW H) (p1 : List MemPlace) (W : World)
    (o0 : Value.okWide Tryd.prog W .any base 22 v0) (h0 : DataW.Trod enc Tryd.prog W 0 (fun _ => true) true 22 v0 d0 p0)
    (o1 : Value.okWide Tryd.prog W .any base 3 v1) (h1 : DataW.Trod enc Tryd.prog W 0 (fun _ => true) true 3 v1 d1 p1)
    (hk : Rows.uptoSmall H [d0, d1] = true)
    (hL : laidMetH Tryd.prog Rows.heapBacksUptoRow.laid W) :
    Calls Tryd.prog 6 #[v0, v1] W fun e w' => e = .returned (.bool true) ∧ Below W.heap.size W w' := by
  obtain ⟨a, n, cap, b, off, kd, idf, kf, kv, rfl, hn, ha, hO⟩ := open_opsh o0 h0 (up_arg hk (by simp))
  obtain ⟨id, rfl, hid, -⟩ := open_intb o1
  have hT := tabT_of_laid hL
  have HT := Lib.hid hT
  have HS := Lib.hid (speaks8_any W hT)
  have HID := Lib.hid hid
  clear o0 h0 o1 h1 hk hL hT hid
  go_enter Tryd.func6, Tryd.ntmps6
  go_wp2_with fail
  refine HS.out.mono ?_
  rintro x w0 ⟨rfl, b0⟩
  have O0 := Lib.hid (hO.below b0)
  have B0 := Lib.hid b0
  have HT0 := Lib.hid (HT.out.below b0)
  clear hO b0
  go_wp2_with fail
  refine (hc_new w0 HT0.out).mono ?_
  rintro x w1 ⟨gh, rfl, h1, -⟩
  have H1 := Lib.hid h1
  clear h1
  go_wp2_with fail
  go_loopw [21] (fun i wx => ∃ (k : Nat) (s : List Sl) (last : Int), k ≤ n ∧ i = .int .i64 k ∧ Hc w0 wx gh s last (fun _ => False) ∧ s.length ≤ k ∧ last ≤ k ∧ RowsLe 1048576 s) (fun i _ => n - (intOf i).toNat)
  case atStart => exact ⟨0, [], 0, Nat.zero_le _, rfl, H1.out, Nat.le_refl _, Int.le_refl _, RowsLe.nil _⟩
  case round =>
    obtain ⟨k, s, last, hk1, rfl, hF, hs, hl, hrw⟩ := hrel
    have HRW := Lib.hid hrw
    clear hrw
    by_cases q : k < n
    · have c1 : (k : Int) < (n : Int) := by omega
      have K1 := Lib.hid (O0.out.below hF.bel)
      have d0 := K1.out.c0 k q
      have d1 := K1.out.c1 k q
      have d2 := K1.out.c2 k q
      obtain rfl : a = some ⟨b, off, none⟩ := by
        rcases ha with g | g
        · omega
        · exact g
      have hky := K1.out.key k q
      have hkl := K1.out.len k q
      obtain ⟨ak, bk, ok, ck, ekv, -⟩ := _root_.id hky
      have HKY := Lib.hid hky
      have HF := Lib.hid hF
      have ltb := K1.out.lt (by omega)
      rw [ekv] at d2 HKY
      clear hF K1 hky ekv
      go_wp2_with fail
      · obtain ⟨w2, hw2⟩ : ∃ w2, wr.alloc (.cells #[.int .i64 (kd k), .int .i64 (idf k), .slice ak (kf k).length ck] 32) = w2 := ⟨_, rfl⟩
        have b2 : Below wr.heap.size wr w2 := by rw [← hw2]; exact (Below.refl _ _).alloc (Nat.le_refl _) _
        rw [hw2]
        refine (copy_row (HKY.out.step (Frm.of_below (F := fun _ => False) b2) (fun _ _ h => h)) (by omega)).mono ?_
        rintro x w3 ⟨v3, rfl, hk3, b3, -⟩
        have HC3 := Lib.hid (HF.out.to (stepB b2 b3))
        have HK3 := Lib.hid (hk3.mono (R' := fun j => wr.heap.size ≤ j ∧ j < w3.heap.size) (fun j hj => ⟨Nat.le_trans b2.size hj.1, hj.2⟩))
        clear hw2 b2 hk3 b3
        go_wp2_with fail
        refine (hc_add HC3.out (by omega) (by omega) HK3.out (fun j hj => .inl (.inr hj))).mono ?_
        rintro x w4 ⟨rfl, h4, -⟩
        have H4 := Lib.hid (h4.mono (K' := fun _ => False) (fun _ h => h.elim))
        have hll := (hLay_len (last + 1) (kf k) s).1
        clear h4
        go_wp2_with fail
        exact ⟨⟨k + 1, _, _, by omega, by simp, H4.out, by omega, by omega, HRW.out.lay hkl⟩, by simp [intOf]; omega⟩
      · obtain ⟨w2, hw2⟩ : ∃ w2, wr.alloc (.cells #[.int .i64 (kd k), .int .i64 (idf k), .slice ak (kf k).length ck] 32) = w2 := ⟨_, rfl⟩
        have b2 : Below wr.heap.size wr w2 := by rw [← hw2]; exact (Below.refl _ _).alloc (Nat.le_refl _) _
        rw [hw2]
        refine (hc_drop (HF.out.below b2) (by omega) (by omega) (idf k)).mono ?_
        rintro x w4 ⟨rfl, h4, -⟩
        have H4 := Lib.hid h4
        have hll := hDrop_len (idf k) s
        clear h4 hw2 b2
        go_wp2_with fail
        exact ⟨⟨k + 1, _, _, by omega, by simp, H4.out, by omega, by omega, HRW.out.drop _⟩, by simp [intOf]; omega⟩
    · have c1 : ¬ (k : Int) < (n : Int) := by omega
      obtain rfl : n = k := by omega
      have HF := Lib.hid hF
      clear hF H1
      go_wp2_with fail
      refine (hc_len HF.out).mono ?_
      rintro x w2 ⟨rfl, rfl⟩
      go_wp2_with fail
      refine (hc_last HF.out).mono ?_
      rintro x w2 ⟨rfl, rfl⟩
      go_wp2_with fail
      refine (hc_get HF.out id).mono ?_
      rintro x w3 ⟨b3, ⟨q1, rfl⟩ | ⟨j, row, v3, q1, q2, q3, hk3, rfl⟩⟩
      · have H3 := Lib.hid (HF.out.below b3)
        clear b3
        go_wp2_with fail
        refine (hc_drop H3.out (by omega) (by omega) id).mono ?_
        rintro x w4 ⟨rfl, h4, -⟩
        rw [q1, show decide ((0 : Int) ≤ -1) = false from rfl]
        have HB := Lib.hid (B0.out.trans (h4.bel.mono B0.out.size))
        clear h4
        go_wp2_with fail
        go_ret
        exact ⟨rfl, HB.out⟩
      · obtain ⟨r1, r2, r3, r4, r5⟩ := back_same HF.out.ok.1 q1 q3 q2
        have H3 := Lib.hid (HF.out.to b3)
        obtain ⟨g3, c3, rfl, hg3⟩ := _root_.id hk3
        have HK3 := Lib.hid hk3
        have hrl := hk3.keyAt (R := fun _ => True) (fun _ _ => trivial)
        have hlt3 := hk3.lt
        clear b3 hk3
        go_wp2_with fail
        refine (hc_drop H3.out (by omega) (by omega) id).mono ?_
        rintro x w4 ⟨rfl, h4, k4⟩
        rw [decide_eq_true (show 0 ≤ hFind id s by omega)]
        have HK4 := Lib.hid (HK3.out.keptH (fun j hj => k4.2 j (.inr (hlt3 j hj))) k4.1)
        have H4 := Lib.hid h4
        have hrl4 := HK4.out.keyAt (R := fun _ => True) (fun _ _ => trivial)
        have HR4 := Lib.hid hrl4
        have hml : row.length ≤ 17592186044416 := by have := HRW.out _ (List.mem_of_getElem? q1); simp only at this; omega
        clear h4 k4 hrl hrl4 HK3 H3
        go_wp2_with fail
        refine (copy_row HR4.out hml).mono ?_
        rintro x w5 ⟨v5, rfl, hk5, b5, -⟩
        have H5 := Lib.hid (H4.out.to b5)
        have HK5 := Lib.hid (hk5.mono (R' := fun j => w4.heap.size ≤ j ∧ j < w5.heap.size) (fun j hj => hj))
        have HR5 := Lib.hid (HK4.out.below b5)
        clear hk5 b5 HR4
        go_wp2_with fail
        refine (hc_back H5.out (by rw [hDrop_len]; omega) (by omega) id HK5.out (fun j hj => .inl (.inr hj))).mono ?_
        rintro x w6 ⟨rfl, h6, k6⟩
        have hc6 : 1 ≤ id ∧ id ≤ last ∧ hFind id (hDrop id s) < 0 := ⟨by omega, r5, by omega⟩
        rw [decide_eq_true hc6]
        rw [if_pos hc6] at h6
        have H6 := Lib.hid h6
        have HR6 := Lib.hid (HR5.out.keptH (fun j hj => k6.2 j (.inl (.inr (hlt3 j hj)))) k6.1)
        clear h6 k6 HR5 hc6
        go_wp2_with fail
        refine (hc_get H6.out id).mono ?_
        rintro x w7 ⟨b7, ⟨q7, -⟩ | ⟨j7, row7, v7, p1, p2, p3, hk7, rfl⟩⟩
        · exact absurd q7 r4
        obtain rfl := r3 j7 row7 p1
        have H7 := Lib.hid (H6.out.below b7)
        obtain ⟨g7, c7, rfl, -⟩ := _root_.id hk7
        have y1 := (hk7.keyAt (R := fun _ => True) (fun _ _ => trivial)).str
        have y2 := ((HR6.out.below b7).keyAt (R := fun _ => True) (fun _ _ => trivial)).str
        clear b7 hk7 p1 p2 p3
        go_wp2_with fail
        refine (hc_len H7.out).mono ?_
        rintro x w8 ⟨rfl, rfl⟩
        rw [r2]
        go_wp2_with fail
        refine (hc_last H7.out).mono ?_
        rintro x w8 ⟨rfl, rfl⟩
        have HB := Lib.hid (B0.out.trans (H7.out.bel.mono B0.out.size))
        go_wp2_with fail
        go_ret
        exact ⟨rfl, HB.out⟩

/-- a world for the witness: the listed variables hold what is laid -/
noncomputable def laidWorld (os : Os) : World :=
  { World.holding Tryd.prog os ⟨#[], #[], []⟩ with heap := ((World.holding Tryd.prog os ⟨#[], #[], []⟩).heap.modify 2 fun
      | .cells _ t frozen => .cells #[.int .u8 0, .int .u8 1, .int .u8 56, .int .u8 2, .int .u8 57, .int .u8 49, .int .u8 28, .int .u8 3, .int .u8 61, .int .u8 58, .int .u8 42, .int .u8 50, .int .u8 38, .int .u8 29, .int .u8 17, .int .u8 4, .int .u8 62, .int .u8 47, .int .u8 59, .int .u8 36, .int .u8 45, .int .u8 43, .int .u8 51, .int .u8 22, .int .u8 53, .int .u8 39, .int .u8 33, .int .u8 30, .int .u8 24, .int .u8 18, .int .u8 12, .int .u8 5, .int .u8 63, .int .u8 55, .int .u8 48, .int .u8 27, .int .u8 60, .int .u8 41, .int .u8 37, .int .u8 16, .int .u8 46, .int .u8 35, .int .u8 44, .int .u8 21, .int .u8 52, .int .u8 32, .int .u8 23, .int .u8 11, .int .u8 54, .int .u8 26, .int .u8 40, .int .u8 15, .int .u8 34, .int .u8 20, .int .u8 31, .int .u8 10, .int .u8 25, .int .u8 14, .int .u8 19, .int .u8 9, .int .u8 13, .int .u8 8, .int .u8 7, .int .u8 6] t frozen
      | o => o) }
theorem laid_met (os : Os) : laidMetH Tryd.prog Rows.heapBacksUptoRow.laid ((laidWorld os).forCall (fun _ _ => 0) ⟨#[], #[.slice none 0 0, .int .i64 0], []⟩).memory :=
  laidMet_of_run' 8 (by kernel_rfl) (by kernel_rfl)
theorem reads (os : Os) {H : Type} (enc : TypeId × Value → H) : ∃ places, DataW.whole enc Tryd.prog ((laidWorld os).forCall (fun _ _ => 0) ⟨#[], #[.slice none 0 0, .int .i64 0], []⟩).memory Tryd.f6.params.toList Rows.heapBacksSpec.vars false (#[.slice none 0 0, .int .i64 0] : Array Value).toList 8 = some ([.nil, .lit (.int .i64 0)], [], places) :=
  ⟨[], by kernel_rfl⟩

set_option maxRecDepth 100000 in
theorem lifted (os : Os) (started : os.Started) (H : Type) (enc : TypeId × Value → H) (F : Stop.Interp) :
    ReturnsInHanded {} Tryd.checked os 6 .any ((Rows.OpenSpec.upto Rows.heapBacksSpec).preRow enc Tryd.prog Tryd.f6 Rows.heapBacksUptoRow.domain false Rows.heapBacksUptoRow.laid) (((Rows.OpenSpec.upto Rows.heapBacksSpec).at F).post enc Tryd.prog Tryd.f6 false true false false) := by
  obtain ⟨places, hx⟩ := reads os enc
  refine returnsInHanded_of_row (C := Tryd.checked) (s := (Rows.OpenSpec.upto Rows.heapBacksSpec)) own started (by kernel_rfl) Tryd.func6
    (witness_row_at (enc := enc) (C := Tryd.checked) false (laidWorld os) #[.slice none 0 0, .int .i64 0] rfl (by kernel_rfl) (by kernel_rfl) (by kernel_rfl)
      (OpenSpec.preRow_of_cond 8 hx (by kernel_rfl) (fun k hk => by cases hk; kernel_rfl) (by kernel_rfl) (laid_met os))) ?_
  intro W base args ds gs before hval0 hW _ hcond _ hL _ _
  have hval : ∀ (j : Nat) t v, Tryd.f6.params[j]? = some t → args[j]? = some v → Value.okWide Tryd.prog W .any base t v := hval0
  have hW' := hW
  obtain ⟨p, q, hA0, hV, rfl, hfz, hnd⟩ := hW
  have hA : DataW.TrodAll enc Tryd.prog W 0 (fun _ => true) true Tryd.f6.params.toList args.toList ds p := hA0
  rw [Tryd.params6] at hA hval
  obtain ⟨v0, vs0, d0, ds0, p0, q0, hargs, rfl, rfl, h0, r0⟩ := trodAll_cons hA
  obtain ⟨v1, vs1, d1, ds1, p1, q1, rfl, rfl, rfl, h1, r1⟩ := trodAll_cons r0
  obtain ⟨rfl, rfl, rfl⟩ := trodAll_nil r1
  obtain rfl : args = #[v0, v1] := by cases args; simp_all
  obtain ⟨rfl, rfl⟩ := trodVars_none hV
  have hk : Rows.uptoSmall H [d0, d1] = true := hcond _ rfl
  have lt0 : ∀ x ∈ p0, x.block < W.heap.size := by obtain ⟨m, hm⟩ := h0; exact DataW.trod_lt m _ _ _ hm
  have lt1 : ∀ x ∈ p1, x.block < W.heap.size := by obtain ⟨m, hm⟩ := h1; exact DataW.trod_lt m _ _ _ hm
  refine (walk (enc := enc) base v0 d0 p0 v1 d1 p1 W (hval 0 22 v0 rfl rfl) h0 (hval 1 3 v1 rfl rfl) h1 hk hL).mono fun e W' ⟨he, bel⟩ => ?_
  subst he
  exact ⟨_, rfl, _, _, _, [], _, [], hW', trodAll_mk1 (shut_bool Tryd.underlying4 _), (trodAll_cons_mk (Below.trod laidOut (by kernel_rfl) (of_decide_eq_true (by kernel_rfl)) h0 bel lt0) (trodAll_cons_mk (Below.trod laidOut (by kernel_rfl) (of_decide_eq_true (by kernel_rfl)) h1 bel lt1) trodAll_mk0)), rfl, bel.frame _, fun h => by cases h⟩

theorem said : Rows.HeapBacksUptoSaid :=
  OpenClaim.holds_of_cond 6 Tryd.f6 rfl rfl rfl rfl rfl rfl rfl ⟨rfl, rfl, rfl, rfl, rfl⟩ rfl rfl rfl rfl rfl (by kernel_rfl) Tryd.func6 (by kernel_rfl)
    (of_decide_eq_true (by kernel_rfl)) (by unfold Func.isWrapper; first | (rw [if_pos (by decide +kernel)]; kernel_rfl) | (rw [if_neg (by decide +kernel)]; exact ⟨rfl, rfl⟩))
    (fun os started H enc _ F => by rw [OpenClaim.pre_eq_preRow]; exact lifted os started H enc F)
theorem plain (f : FuncId) (fn : Func) (hf : Tryd.pinned.checked.prog.funcNamed "hasp/hasplaw08.HeapBacks" = some f) (hfn : Tryd.pinned.checked.prog.funcs[f]? = some fn) :
    false = Tryd.pinned.checked.prog.looks [] ∧ ∀ (j : Nat) t, fn.params[j]? = some t → Tryd.pinned.checked.prog.wantsStandIn t = false := by
  obtain rfl : f = 6 := Option.some.inj ((show Tryd.prog.funcNamed "hasp/hasplaw08.HeapBacks" = some 6 by kernel_rfl).symm.trans hf) |>.symm
  obtain rfl : fn = Tryd.f6 := (Option.some.inj (Tryd.func6.symm.trans hfn)).symm
  refine ⟨by kernel_rfl, fun j t ht => ?_⟩
  rw [Tryd.params6] at ht
  have hm : t ∈ ([22, 3] : List TypeId) := by simpa using Array.mem_of_getElem? ht
  have hall : (([22, 3] : List TypeId).all fun u => !Tryd.prog.wantsStandIn u) = true := by kernel_rfl
  exact (show Tryd.prog.wantsStandIn t = false by simpa using List.all_eq_true.1 hall t hm)

theorem proved : Rows.HeapBacksUptoCardSaid :=
  Claim7.holds_tied_plain_at .later [] _ _ _ _ said (fun _ h => by cases h) (by kernel_rfl) (fun _ h => by cases h) heapBacksUpto_row_tie rfl ⟨rfl, rfl⟩ (by kernel_rfl) rfl plain (by kernel_rfl)
end Go.Proofs.YtmmchhlfbhbigaaDoor.heapBacks
