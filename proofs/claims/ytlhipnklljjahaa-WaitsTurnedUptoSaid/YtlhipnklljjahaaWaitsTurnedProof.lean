/-
  WaitsTurned answers true at any list of edges and any number, of a bulk of at most 1048576: the search finds the same, whatever order the edges stand in, and if each stands there twice.
  Conditions: none but the row's own.
-/
import Derived.Test.YtlhipnklljjahaaWt27
import Derived.Test.YtlhipnklljjahaaRows
import Derived.WalkKit
import Derived.ProofKit
import Derived.OpenShut
import Derived.ShutString
import Derived.ChangeOld
import Derived.Below
import Derived.Carry
import Derived.JoinedCond
namespace Go.Proofs.Ytlhipnklljjahaa.waitsTurned
open Go.ChangeShapes Go.WideShapes Go.ChangeAt Go.RowKit
open Go.Joins
set_option linter.unusedVariables false

theorem own : ownKnob Try.prog.godebug = none := by kernel_rfl
theorem laidOut : laidOutB Try.prog = true := by kernel_rfl

set_option maxRecDepth 100000 in

set_option maxHeartbeats 4000000 in
theorem walk {H : Type} {enc : TypeId × Value → H} (base : Nat) (v0 : Value) (d0 : DataW H) (p0 : List MemPlace) (v1 : Value) (d1 : DataW H) (p1 : List MemPlace) (W : World)
    (o0 : Value.okWide Try.prog W .any base 22 v0) (h0 : DataW.Trod enc Try.prog W 0 (fun _ => true) true 22 v0 d0 p0)
    (o1 : Value.okWide Try.prog W .any base 3 v1) (h1 : DataW.Trod enc Try.prog W 0 (fun _ => true) true 3 v1 d1 p1)
    (hk : Rows.uptoSmall H [d0, d1] = true) :
    Calls Try.prog 5 #[v0, v1] W fun e w' => e = .returned (.bool true) ∧ Below W.heap.size W w' := by
  obtain ⟨a, cap, b, off, E, rfl, hE⟩ := open_edges o0 h0 (up_arg hk (by simp))
  have h3 := edges_third h0 (up_arg hk (by simp))
  obtain ⟨x0, rfl⟩ := open_intw o1
  have HS := Lib.hid (speaks11_any W)
  have HEA := Lib.hid hE
  obtain ⟨m, em⟩ : ∃ m, E.length = m := ⟨_, rfl⟩
  rw [em] at h3 ⊢
  have hm9 : (m : Int) ≤ 349525 := by omega
  have hm8 : (0 : Int) ≤ (m : Int) := by omega
  have EM := Lib.hid em
  have H3 := Lib.hid h3
  clear o0 h0 o1 h1 hk hE em h3
  generalize hP : (fun (e : Ending) (W' : World) => e = .returned (.bool true) ∧ Below W.heap.size W W') = PP
  have HP := Lib.hid hP
  clear hP
  go_enter Try.func5, Try.ntmps5
  go_wp2_with fail
  refine HS.out.mono ?_
  rintro x w0 ⟨rfl, b0⟩
  have B0 := Lib.hid b0
  obtain ⟨w1, hw1⟩ : ∃ x, w0.alloc (.cells #[] 27) = x := ⟨_, rfl⟩
  have OW1 := Lib.hid (show OwEd w1 w0.heap.size (.slice (some ⟨w0.heap.size, 0, none⟩) 0 0) [] by rw [← hw1]; exact edges_made w0)
  have B1 := Lib.hid (show Below w0.heap.size w0 w1 by rw [← hw1]; exact (Below.refl _ _).alloc (Nat.le_refl _) _)
  obtain ⟨B, hB⟩ : ∃ x, w0.heap.size = x := ⟨_, rfl⟩
  have HB := Lib.hid hB
  have HW1 := Lib.hid hw1
  rw [hB] at OW1 B1
  clear b0 hw1 HS hB
  go_wp2_with fail
  try rw [HW1.out]
  try rw [HB.out]
  go_loopw [6, 5] (fun i v wx => ∃ (k : Nat) (L : List Eg), k ≤ m ∧ i = .int .i64 ((k : Int) - 1) ∧ Hid (OwEd wx B v L) ∧ Hid (L.length = 2 * (m - k) ∧ ∀ e, e ∈ L ↔ e ∈ E.drop k) ∧ Below B w0 wx) (fun i _ _ => (intOf i + 1).toNat)
  case atStart => exact ⟨m, [], Nat.le_refl _, rfl, OW1, ⟨by simp, fun e => by rw [List.drop_of_length_le (by rw [EM.out]; exact Nat.le_refl _)]⟩, B1.out⟩
  case round =>
    obtain ⟨k, L, hk, rfl, HO, HL, hb⟩ := hrel
    rcases Nat.eq_zero_or_pos k with rfl | hpos
    · have hz0 : ((0 : Nat) : Int) - 1 = -1 := rfl
      rw [hz0]
      have hbw : Below W.heap.size W wr := btr B0.out (by rw [HB.out]; exact hb)
      obtain ⟨g2, cp2, w2, hr2, hg2, hl2, ha2, b2⟩ := run_copyE wr a b off cap E (HEA.out.below hbw) 22
      rw [EM.out] at hr2
      obtain ⟨g5, cp5, e5, -, -, ha5⟩ := OwEd.arg HO.out (by rw [HL.out.1]; have := H3.out; omega)
      have hl5 : L.length = 2 * m := by have := HL.out.1; omega
      rw [hl5] at e5
      obtain ⟨m2, hm2⟩ : ∃ x, 2 * m = x := ⟨_, rfl⟩
      rw [hm2] at e5 hl5
      subst e5
      have HL5 := Lib.hid hl5
      have HSX := Lib.hid (show Sx L = Sx E from Sx_same _ _ fun e => by rw [HL.out.2]; rfl)
      have HR2 := Lib.hid hr2
      have HA2 := Lib.hid ha2
      have HA5 := Lib.hid ha5
      have B2 := Lib.hid b2
      have BW := Lib.hid hbw
      clear hr2 hg2 hl2 ha2 b2 ha5 hl5 hm2 hb HO HL OW1 B1 hbw
      go_wp2_with (first | (at_builtin; refine wpList_plain rfl fun K hK => ?_; refine Lib.wp_append_run _ (.tmp 28) (.tmp 29) _ _ rfl _ _ rfl rfl _ _ HR2.out (hK _ _ ?_)))
      refine (HA2.out.cyc EM.out (Frm.refl (fun _ => False) w2) (fun h => h) x0).mono ?_
      rintro e w3 ⟨v3, o, rfl, r3, q3, b3⟩
      have R3 := Lib.hid r3
      have Q3 := Lib.hid q3
      have B3 := Lib.hid (btr B2.out b3)
      clear r3 q3 b3
      go_wp2_with fail
      refine (HA5.out.cyc HL5.out (Frm.of_below (F := fun _ => False) B3.out) (fun h => h) x0).mono ?_
      rintro e w4 ⟨v4, o4, rfl, r4, q4, b4⟩
      rw [HSX.out] at r4
      obtain rfl := Res.one R3.out _ r4
      obtain ⟨A3, c3, e3, -⟩ := Q3.out.form
      obtain ⟨A4, c4, e4, -⟩ := q4.form
      subst e3 e4
      have HSI := Lib.hid ((Q3.out.below b4).same q4)
      rw [decide_eq_true rfl] at HSI
      obtain ⟨n, hn⟩ : ∃ n, (icells o).length = n := ⟨_, rfl⟩
      rw [hn] at HSI ⊢
      have B4 := Lib.hid (btr BW.out (btr B3.out b4))
      clear r4 q4 b4 hn
      go_wp2_with fail
      refine HSI.out.mono ?_
      rintro e w5 ⟨rfl, b5⟩
      have HF := Lib.hid (show PP (.returned (.bool true)) w5 by
        rw [← HP.out]
        exact ⟨rfl, btr B4.out b5⟩)
      clear b5 HSI
      go_wp2_with fail
      exact HF.out
    · obtain ⟨j, rfl⟩ : ∃ j, k = j + 1 := ⟨k - 1, by omega⟩
      have hz : ((j + 1 : Nat) : Int) - 1 = (j : Int) := by omega
      rw [hz]
      have c0 : (0 : Int) ≤ (j : Int) := by omega
      have c1 : (j : Int) < (m : Int) := by omega
      obtain rfl : a = some ⟨b, off, none⟩ := by rcases HEA.out.2.1 with h | h; (have := EM.out; omega); exact h
      obtain ⟨u, v, hx⟩ : ∃ u v, E[j]? = some (u, v) := ⟨_, _, List.getElem?_eq_getElem (by rw [EM.out]; omega)⟩
      have hbw : Below W.heap.size W wr := btr B0.out (by rw [HB.out]; exact hb)
      have a0 := (HEA.out.below hbw).2.2.1.c0 j u v hx
      have a1 := (HEA.out.below hbw).2.2.1.c1 j u v hx
      have hdr : E.drop j = (u, v) :: E.drop (j + 1) := by
        rw [List.drop_eq_getElem_cons (by rw [EM.out]; omega)]
        rw [List.getElem?_eq_getElem (by rw [EM.out]; omega)] at hx
        rw [Option.some.inj hx]
      have HL2 := Lib.hid (show (L ++ [(u, v), (u, v)]).length = 2 * (m - j) ∧ ∀ e, e ∈ L ++ [(u, v), (u, v)] ↔ e ∈ E.drop j from ⟨by rw [List.length_append, HL.out.1]; simp; omega, fun e => by rw [List.mem_append, HL.out.2, hdr, List.mem_cons]; simp; exact or_comm⟩)
      have hB' : B ≤ wr.heap.size := by have := hb.size; have := HB.out; omega
      obtain ⟨v6, w6, hr6, ow6, b6⟩ := run_pushEd wr B u5 L HO.out hB' [(u, v), (u, v)] #[.int .i64 u, .int .i64 v, .int .i64 u, .int .i64 v] rfl 2 rfl (by have h1 := HL.out.1; have h2 := H3.out; simp; omega) 22
      have HR6 := Lib.hid hr6
      have HO6 := Lib.hid ow6
      have HB6 := Lib.hid (show Below B w0 w6 from hb.trans b6)
      have hw : IntKind.i64.wrap ((j : Int) - 1) = (j : Int) - 1 := by rw [IntKind.wrap_i64]; omega
      have a0' : wr.drew.cell? ⟨b, off + j * 2, none⟩ = some (.int .i64 u) := a0
      have a1' : wr.drew.cell? ⟨b, off + j * 2 + 1, none⟩ = some (.int .i64 v) := a1
      clear hr6 ow6 b6 hB' hdr hx hbw hb HO HL hz hpos
      go_wp2_with fail
      go_region_law (first | (refine step_appRun rfl (.tmp 17) (.tmp 26) _ rfl _ _ rfl rfl HR6.out ?_))
      all_goals
        go_wp2_with fail
        exact ⟨⟨j, _, by omega, rfl, HO6, HL2, HB6.out⟩, by simp [intOf]⟩

set_option maxRecDepth 100000 in
theorem lifted (os : Os) (started : os.Started) (H : Type) (enc : TypeId × Value → H) (F : Stop.Interp) :
    ReturnsInHanded {} Try.checked os 5 .any ((Rows.OpenSpec.upto Rows.waitsTurnedSpec).pre6 enc Try.prog Try.f5 Rows.waitsTurnedUptoRow.domain false) (((Rows.OpenSpec.upto Rows.waitsTurnedSpec).at F).post enc Try.prog Try.f5 false true false false) := by
  refine returnsInHanded_of_cond (C := Try.checked) (s := Rows.OpenSpec.upto Rows.waitsTurnedSpec) (k := Rows.uptoSmall) rfl own started (by kernel_rfl) Try.func5
    (OpenSpec.witness (enc := enc) (C := Try.checked) (s := Rows.OpenSpec.upto Rows.waitsTurnedSpec) (k := Rows.uptoSmall) rfl false ⟨#[], #[.slice none 0 0, .int .i64 0], []⟩ 8 (by kernel_rfl) (by kernel_rfl) (by kernel_rfl)
      (x := ([.nil, .lit (.int .i64 0)], [], [])) (by kernel_rfl) rfl (by kernel_rfl)) ?_
  intro W base args ds gs before hval0 hW _ hk0 _
  have hval : ∀ (j : Nat) t v, Try.f5.params[j]? = some t → args[j]? = some v → Value.okWide Try.prog W .any base t v := hval0
  have hW' := hW
  obtain ⟨p, q, hA0, hV, rfl, hfz, hnd⟩ := hW
  have hA : DataW.TrodAll enc Try.prog W 0 (fun _ => true) true Try.f5.params.toList args.toList ds p := hA0
  rw [Try.params5] at hA hval
  obtain ⟨v0, vs0, d0, ds0, p0, q0, hargs, rfl, rfl, h0, r0⟩ := trodAll_cons hA
  obtain ⟨v1, vs1, d1, ds1, p1, q1, rfl, rfl, rfl, h1, r1⟩ := trodAll_cons r0
  obtain ⟨rfl, rfl, rfl⟩ := trodAll_nil r1
  obtain rfl : args = #[v0, v1] := by cases args; simp_all
  obtain ⟨rfl, rfl⟩ := trodVars_none hV
  have hk : Rows.uptoSmall H [d0, d1] = true := hk0
  have lt0 : ∀ x ∈ p0, x.block < W.heap.size := by obtain ⟨m, hm⟩ := h0; exact DataW.trod_lt m _ _ _ hm
  have lt1 : ∀ x ∈ p1, x.block < W.heap.size := by obtain ⟨m, hm⟩ := h1; exact DataW.trod_lt m _ _ _ hm
  refine (walk (enc := enc) base v0 d0 p0 v1 d1 p1 W (hval 0 22 v0 rfl rfl) h0 (hval 1 3 v1 rfl rfl) h1 hk).mono fun e W' ⟨he, bel⟩ => ?_
  subst he
  exact ⟨_, rfl, _, _, _, [], _, [], hW', trodAll_mk1 (shut_bool Try.underlying4 _), (trodAll_cons_mk (Below.trod laidOut (by kernel_rfl) (of_decide_eq_true (by kernel_rfl)) h0 bel lt0) (trodAll_cons_mk (Below.trod laidOut (by kernel_rfl) (of_decide_eq_true (by kernel_rfl)) h1 bel lt1) trodAll_mk0)), rfl, bel.frame _, fun h => by cases h⟩

theorem over : Rows.waitsTurnedUptoRow.holds Try.pinned (Rows.OpenSpec.upto Rows.waitsTurnedSpec) :=
  OpenClaim.holds_of_cond 5 Try.f5 rfl rfl rfl rfl rfl rfl rfl ⟨rfl, rfl, rfl, rfl, rfl⟩ rfl rfl rfl rfl rfl (by kernel_rfl) Try.func5 (by kernel_rfl)
    (of_decide_eq_true (by kernel_rfl)) (by unfold Func.isWrapper; first | (rw [if_pos (by decide +kernel)]; kernel_rfl) | (rw [if_neg (by decide +kernel)]; exact ⟨rfl, rfl⟩))
    (fun os started H enc _ F => lifted os started H enc F)

theorem proved : Rows.WaitsTurnedUptoSaid :=
  over
end Go.Proofs.Ytlhipnklljjahaa.waitsTurned
