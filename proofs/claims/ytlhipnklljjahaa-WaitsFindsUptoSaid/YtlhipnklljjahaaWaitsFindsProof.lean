/-
  WaitsFinds answers true at any list of edges and any number, of a bulk of at most 1048576: the search finds what the document's finds, its answer is the caller's own, and the edges stay as they came.
  Conditions: none but the row's own.
-/
import Derived.Test.YtlhipnklljjahaaWt25
import Derived.Test.YtlhipnklljjahaaRows
import Derived.WalkKit
import Derived.ProofKit
import Derived.OpenShut
import Derived.ShutString
import Derived.ChangeOld
import Derived.Below
import Derived.Carry
import Derived.JoinedCond
namespace Go.Proofs.Ytlhipnklljjahaa.waitsFinds
open Go.ChangeShapes Go.WideShapes Go.ChangeAt Go.RowKit
open Go.Joins
set_option linter.unusedVariables false

theorem own : ownKnob Try.prog.godebug = none := by kernel_rfl
theorem laidOut : laidOutB Try.prog = true := by kernel_rfl

set_option maxRecDepth 100000 in

set_option maxHeartbeats 4000000 in
theorem walk {H : Type} {enc : TypeId × Value → H} (base : Nat) (v0 : Value) (d0 : DataW H) (p0 : List MemPlace) (v1 : Value) (d1 : DataW H) (p1 : List MemPlace) (W : World)
    (o0 : Value.okWide Try.prog W .any base 22 v0) (h0 : DataW.Trod enc Try.prog W 0 (fun _ => true) true 22 v0 d0 p0)
    (o1 : Value.okWide Try.prog W .any base 3 v1) (h1 : DataW.Trod enc Try.prog W 0 (fun _ => true) true 3 v1 d1 p1)
    (hk : Rows.uptoSmall H [d0, d1] = true) :
    Calls Try.prog 3 #[v0, v1] W fun e w' => e = .returned (.bool true) ∧ Below W.heap.size W w' := by
  obtain ⟨a, cap, b, off, E, rfl, hE⟩ := open_edges o0 h0 (up_arg hk (by simp))
  obtain ⟨x0, rfl⟩ := open_intw o1
  have HS := Lib.hid (speaks11_any W)
  have HEA := Lib.hid hE
  obtain ⟨m, em⟩ : ∃ m, E.length = m := ⟨_, rfl⟩
  rw [em]
  have hm9 : (m : Int) ≤ 1048576 := by have := hE.1; omega
  have EM := Lib.hid em
  clear o0 h0 o1 h1 hk hE em
  generalize hP : (fun (e : Ending) (W' : World) => e = .returned (.bool true) ∧ Below W.heap.size W W') = PP
  have HP := Lib.hid hP
  clear hP
  go_enter Try.func3, Try.ntmps3
  go_wp2_with fail
  refine HS.out.mono ?_
  rintro x w0 ⟨rfl, b0⟩
  have B0 := Lib.hid b0
  obtain ⟨g, cp, w1, hr1, hg1, hl1, ha1, b1⟩ := run_copyE w0 a b off cap E (HEA.out.below b0) 22
  rw [EM.out] at hr1
  have HR1 := Lib.hid hr1
  have HA1 := Lib.hid ha1
  have B1 := Lib.hid (btr b0 b1)
  have HL1 := Lib.hid hl1
  clear b0 hr1 hg1 hl1 ha1 b1 HS
  go_wp2_with (first | (at_builtin; go_loud (refine wpList_plain rfl fun K hK => ?_; refine Lib.wp_append_run _ (.tmp 13) (.tmp 14) _ _ rfl _ _ rfl rfl _ _ HR1.out (hK _ _ ?_))))
  refine (HA1.out.cyc EM.out (Frm.refl (fun _ => False) w1) (fun h => h) x0).mono ?_
  rintro e w2 ⟨v6, o, rfl, r6, q6, b2⟩
  have B12 := Lib.hid b2
  have R6 := Lib.hid r6
  have Q6 := Lib.hid q6
  clear r6 q6 b2
  go_wp2_with fail
  refine (HA1.out.cyc EM.out (Frm.of_below (F := fun _ => False) B12.out) (fun h => h) x0).mono ?_
  rintro e w3 ⟨v7, o7, rfl, r7, q7, b3⟩
  obtain rfl := Res.one R6.out _ r7
  have B23 := Lib.hid b3
  have Q7 := Lib.hid q7
  clear r7 q7 b3
  go_wp2_with fail
  refine ((HEA.out.below (btr (btr B1.out B12.out) B23.out)).rcyc EM.out x0).mono ?_
  rintro e w4 ⟨v8, o8, rfl, r8, q8, b4⟩
  obtain rfl := Res.one R6.out _ r8
  have B34 := Lib.hid b4
  have Q8 := Lib.hid q8
  clear r8 q8 b4
  obtain ⟨n, hn⟩ : ∃ n, o.length = n := ⟨_, rfl⟩
  have HN := Lib.hid hn
  have hn9 : (n : Int) ≤ 1048576 := by
    have h1 := res_len R6.out
    have h2 := HEA.out.1
    omega
  obtain ⟨A6, c6, e6, -⟩ := Q6.out.form
  rw [icells_length, hn] at e6
  obtain ⟨A7, c7, e7, -⟩ := Q7.out.form
  rw [icells_length, hn] at e7
  obtain ⟨A8, c8, e8, -⟩ := Q8.out.form
  rw [icells_length, hn] at e8
  subst e6 e7 e8
  have Q64 := Lib.hid (show QR w4 w1.heap.size 3 (.slice A6 n c6) (icells o) from Q6.out.below (btr B23.out B34.out))
  clear hn
  go_wp2_with fail
  go_loopw [27] (fun i wx => ∃ (k : Nat) (xs : List Value), k ≤ n ∧ i = .int .i64 k ∧ Hid (xs.length = n ∧ QR wx w1.heap.size 3 (.slice A6 n c6) xs) ∧ Frm (fun k => (Value.slice A6 n c6).ownBlock = some k) w4 wx) (fun i _ => n - (intOf i).toNat)
  case atStart => exact ⟨0, _, Nat.zero_le _, rfl, ⟨by rw [icells_length, HN.out], Q64.out⟩, Frm.refl _ _⟩
  case round =>
    obtain ⟨k, xs, hk, rfl, HX, hF⟩ := hrel
    by_cases c : k < n
    · have c1 : (k : Int) < (n : Int) := by omega
      obtain ⟨g6, o6, c6', e6, -, -, hg6, hl6, hfz, hcl⟩ := HX.out.2.at (by rw [HX.out.1]; omega)
      rw [HX.out.1] at e6
      injection e6 with e6 e6a e6b
      subst e6 e6b
      have d0 : wr.cell? ⟨g6, o6 + k, none⟩ = some (xs[k]'(by rw [HX.out.1]; exact c)) := hcl k _ (List.getElem?_eq_getElem _)
      have d1 := hfz (o6 + k)
      have HX2 := Lib.hid (HX.out.2.set k (.int .i64 (-9)) (by rw [HX.out.1]; exact c))
      have HF2 := Lib.hid (hF.trans (Frm.set1 (F := fun k => (Value.slice (some ⟨g6, o6, none⟩) n c6).ownBlock = some k) wr rfl (o6 + k) (.int .i64 (-9))) (New.refl _ _))
      have HLN := Lib.hid (show (xs.set k (.int .i64 (-9))).length = n by rw [List.length_set]; exact HX.out.1)
      clear hcl hfz hF hl6
      go_wp2_with fail
      exact ⟨⟨k + 1, _, by omega, by go_num, ⟨HLN.out, HX2.out⟩, HF2.out⟩, by simp [intOf]; omega⟩
    · obtain rfl : k = n := by omega
      have hFk : ∀ j, (Value.slice A6 k c6).ownBlock = some j → w1.heap.size ≤ j ∧ j < w2.heap.size := Q6.out.lt
      have hW1 := B1.out.size
      have hL1 := HL1.out
      have h23 := B23.out.size
      have hFW : Frm (fun j => (Value.slice A6 k c6).ownBlock = some j) w1 wr := (Frm.of_below (btr (btr B12.out B23.out) B34.out)).trans hF (fun j hj => .inl hj)
      have hGG : ¬ (Value.slice A6 k c6).ownBlock = some g := fun hj => by have := (hFk g hj).1; omega
      have HFW := Lib.hid hFW
      have HGG := Lib.hid hGG
      have HEG := Lib.hid (HA1.out.2.2.1.frm hFW (fun _ => hGG))
      have HEX := Lib.hid (show EgArg wr a b off cap E from ⟨HEA.out.1, HEA.out.2.1, (HEA.out.below (btr (btr (btr B1.out B12.out) B23.out) B34.out)).2.2.1.frm hF (fun h0 hj => by have := HEA.out.2.2.1.hb h0; have := (hFk b hj).1; omega), HEA.out.2.2.2⟩)
      have Q7X := Lib.hid (show QI wr w2.heap.size (.slice A7 k c7) o from (Q7.out.below B34.out).step hF (fun j h1 h2 => by have := (hFk j h2).2; have := (Q7.out.lt j h1).1; omega))
      have Q8X := Lib.hid (show QI wr w3.heap.size (.slice A8 k c8) o from Q8.out.step hF (fun j h1 h2 => by have := (hFk j h2).2; have := (Q8.out.lt j h1).1; omega))
      have BWX := Lib.hid (show Below W.heap.size W wr from (btr (btr (btr B1.out B12.out) B23.out) B34.out).trans (hF.below (B := W.heap.size) (fun j hj => by have := (hFk j hj).1; omega) (btr (btr (btr B1.out B12.out) B23.out) B34.out).size))
      clear hFk hW1 hL1 h23 hFW hGG hF HX Q64 Q6 Q7 Q8 B34 B23 B12 B1 B0
      go_wp2_with fail
      go_loopw [36] (fun i wx => ∃ j : Nat, j ≤ m ∧ i = .int .i64 j ∧ Below wr.heap.size wr wx) (fun i _ => m - (intOf i).toNat)
      case atStart => exact ⟨0, Nat.zero_le _, rfl, Below.refl _ _⟩
      case round =>
        rename_i wz
        obtain ⟨j, hj, rfl, hb⟩ := hrel
        by_cases c : j < m
        · have c1 : (j : Int) < (m : Int) := by omega
          obtain rfl : a = some ⟨b, off, none⟩ := by rcases HEA.out.2.1 with h | h; (have := EM.out; omega); exact h
          obtain ⟨u, v, hx⟩ : ∃ u v, E[j]? = some (u, v) := ⟨_, _, List.getElem?_eq_getElem (by rw [EM.out]; exact c)⟩
          have a0 := (HEG.out.below hb).c0 j u v hx
          have a1 := (HEG.out.below hb).c1 j u v hx
          rw [Nat.zero_add] at a0 a1
          have d0 := (HEX.out.2.2.1.below hb).c0 j u v hx
          have d1 := (HEX.out.2.2.1.below hb).c1 j u v hx
          have HBL := Lib.hid hb
          have u1 : u = u := rfl
          clear hx hb
          go_wp2_with fail
          go_quiet (fail)
          go_wp2_with fail
          exact ⟨⟨j + 1, by omega, by go_num, HBL.out.trans ⟨rfl, rfl, rfl, Nat.le_refl _, fun _ _ => rfl⟩⟩, by simp [intOf]; omega⟩
        · obtain rfl : j = m := by omega
          have HSI := Lib.hid ((Q7X.out.below hb).same (Q8X.out.below hb))
          rw [decide_eq_true rfl] at HSI
          have BZ := Lib.hid hb
          clear hb
          go_wp2_with fail
          refine HSI.out.mono ?_
          rintro e w5 ⟨rfl, b5⟩
          have B5 := Lib.hid (btr BZ.out b5)
          clear b5 HSI
          go_wp2_with fail
          refine (HA1.out.any EM.out (HFW.out.step B5.out) HGG.out).mono ?_
          rintro e w6 ⟨t1, rfl, ht1, b6⟩
          have HT1 := Lib.hid ht1
          have B6 := Lib.hid (btr B5.out b6)
          clear b6 ht1
          go_wp2_with fail
          refine ((HEX.out.below B6.out).rany EM.out).mono ?_
          rintro e w7 ⟨t2, rfl, ht2, b7⟩
          obtain rfl : t1 = t2 := Bool.eq_iff_iff.2 (HT1.out.trans ht2.symm)
          have tt : (t1 == t1) = true := by simp
          have B7 := Lib.hid (btr B6.out b7)
          obtain ⟨v9, w9, hr9, q9, b9⟩ := run_copyI w7 _ o _ (Q8X.out.below B7.out) (by have := HN.out; omega) 24
          obtain ⟨A9, c9, e9, n9, l9, -⟩ := q9.form
          rw [icells_length, HN.out] at e9 n9
          subst e9
          have HR9 := Lib.hid hr9
          have HV1 := Lib.hid (q9.vic (by rw [HN.out]; omega))
          have HV2 := Lib.hid ((Q8X.out.below (btr B7.out b9)).rvic (by rw [HN.out]; omega))
          have HF := Lib.hid (show PP (.returned (.bool true)) w9 by
            rw [← HP.out]
            exact ⟨rfl, btr (btr BWX.out B7.out) b9⟩)
          clear ht2 b7 hr9 q9 b9 HT1
          go_wp2_with (first | (at_builtin; refine wpList_step fun K hK => ?_; rw [if_pos (by rfl)]; refine Lib.wp_append_run _ (.tmp 60) (.tmp 61) _ _ rfl _ _ rfl rfl _ _ HR9.out (hK _ _ ?_)))
          refine HV1.out.mono ?_
          rintro e w10 ⟨z, rfl, hz, rfl⟩
          have HZ := Lib.hid hz
          clear hz
          go_wp2_with fail
          refine HV2.out.mono ?_
          rintro e w11 ⟨z2, rfl, hz2, rfl⟩
          obtain rfl : z = z2 := HZ.out.one hz2
          have zz : (z == z) = true := by simp
          clear hz2
          go_wp2_with fail
          exact HF.out

set_option maxRecDepth 100000 in
theorem lifted (os : Os) (started : os.Started) (H : Type) (enc : TypeId × Value → H) (F : Stop.Interp) :
    ReturnsInHanded {} Try.checked os 3 .any ((Rows.OpenSpec.upto Rows.waitsFindsSpec).pre6 enc Try.prog Try.f3 Rows.waitsFindsUptoRow.domain false) (((Rows.OpenSpec.upto Rows.waitsFindsSpec).at F).post enc Try.prog Try.f3 false true false false) := by
  refine returnsInHanded_of_cond (C := Try.checked) (s := Rows.OpenSpec.upto Rows.waitsFindsSpec) (k := Rows.uptoSmall) rfl own started (by kernel_rfl) Try.func3
    (OpenSpec.witness (enc := enc) (C := Try.checked) (s := Rows.OpenSpec.upto Rows.waitsFindsSpec) (k := Rows.uptoSmall) rfl false ⟨#[], #[.slice none 0 0, .int .i64 0], []⟩ 8 (by kernel_rfl) (by kernel_rfl) (by kernel_rfl)
      (x := ([.nil, .lit (.int .i64 0)], [], [])) (by kernel_rfl) rfl (by kernel_rfl)) ?_
  intro W base args ds gs before hval0 hW _ hk0 _
  have hval : ∀ (j : Nat) t v, Try.f3.params[j]? = some t → args[j]? = some v → Value.okWide Try.prog W .any base t v := hval0
  have hW' := hW
  obtain ⟨p, q, hA0, hV, rfl, hfz, hnd⟩ := hW
  have hA : DataW.TrodAll enc Try.prog W 0 (fun _ => true) true Try.f3.params.toList args.toList ds p := hA0
  rw [Try.params3] at hA hval
  obtain ⟨v0, vs0, d0, ds0, p0, q0, hargs, rfl, rfl, h0, r0⟩ := trodAll_cons hA
  obtain ⟨v1, vs1, d1, ds1, p1, q1, rfl, rfl, rfl, h1, r1⟩ := trodAll_cons r0
  obtain ⟨rfl, rfl, rfl⟩ := trodAll_nil r1
  obtain rfl : args = #[v0, v1] := by cases args; simp_all
  obtain ⟨rfl, rfl⟩ := trodVars_none hV
  have hk : Rows.uptoSmall H [d0, d1] = true := hk0
  have lt0 : ∀ x ∈ p0, x.block < W.heap.size := by obtain ⟨m, hm⟩ := h0; exact DataW.trod_lt m _ _ _ hm
  have lt1 : ∀ x ∈ p1, x.block < W.heap.size := by obtain ⟨m, hm⟩ := h1; exact DataW.trod_lt m _ _ _ hm
  refine (walk (enc := enc) base v0 d0 p0 v1 d1 p1 W (hval 0 22 v0 rfl rfl) h0 (hval 1 3 v1 rfl rfl) h1 hk).mono fun e W' ⟨he, bel⟩ => ?_
  subst he
  exact ⟨_, rfl, _, _, _, [], _, [], hW', trodAll_mk1 (shut_bool Try.underlying4 _), (trodAll_cons_mk (Below.trod laidOut (by kernel_rfl) (of_decide_eq_true (by kernel_rfl)) h0 bel lt0) (trodAll_cons_mk (Below.trod laidOut (by kernel_rfl) (of_decide_eq_true (by kernel_rfl)) h1 bel lt1) trodAll_mk0)), rfl, bel.frame _, fun h => by cases h⟩

theorem over : Rows.waitsFindsUptoRow.holds Try.pinned (Rows.OpenSpec.upto Rows.waitsFindsSpec) :=
  OpenClaim.holds_of_cond 3 Try.f3 rfl rfl rfl rfl rfl rfl rfl ⟨rfl, rfl, rfl, rfl, rfl⟩ rfl rfl rfl rfl rfl (by kernel_rfl) Try.func3 (by kernel_rfl)
    (of_decide_eq_true (by kernel_rfl)) (by unfold Func.isWrapper; first | (rw [if_pos (by decide +kernel)]; kernel_rfl) | (rw [if_neg (by decide +kernel)]; exact ⟨rfl, rfl⟩))
    (fun os started H enc _ F => lifted os started H enc F)

theorem proved : Rows.WaitsFindsUptoSaid :=
  over
end Go.Proofs.Ytlhipnklljjahaa.waitsFinds
