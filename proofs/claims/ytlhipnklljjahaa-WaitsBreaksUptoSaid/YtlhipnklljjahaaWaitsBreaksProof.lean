/-
  WaitsBreaks answers true at any list of edges and any number, of a bulk of at most 1048576: taking the chosen one of each cycle away, one after the other, leaves no cycle through the number.
  Conditions: none but the row's own.
-/
import Derived.Test.YtlhipnklljjahaaWt26
import Derived.Test.YtlhipnklljjahaaRows
import Derived.WalkKit
import Derived.ProofKit
import Derived.OpenShut
import Derived.ShutString
import Derived.ChangeOld
import Derived.Below
import Derived.Carry
import Derived.JoinedCond
namespace Go.Proofs.Ytlhipnklljjahaa.waitsBreaks
open Go.ChangeShapes Go.WideShapes Go.ChangeAt Go.RowKit
open Go.Joins
set_option linter.unusedVariables false

theorem own : ownKnob Try.prog.godebug = none := by kernel_rfl
theorem laidOut : laidOutB Try.prog = true := by kernel_rfl

set_option maxRecDepth 100000 in

set_option maxHeartbeats 4000000 in
theorem walk {H : Type} {enc : TypeId × Value → H} (base : Nat) (v0 : Value) (d0 : DataW H) (p0 : List MemPlace) (v1 : Value) (d1 : DataW H) (p1 : List MemPlace) (W : World)
    (o0 : Value.okWide Try.prog W .any base 22 v0) (h0 : DataW.Trod enc Try.prog W 0 (fun _ => true) true 22 v0 d0 p0)
    (o1 : Value.okWide Try.prog W .any base 3 v1) (h1 : DataW.Trod enc Try.prog W 0 (fun _ => true) true 3 v1 d1 p1)
    (hk : Rows.uptoSmall H [d0, d1] = true) :
    Calls Try.prog 6 #[v0, v1] W fun e w' => e = .returned (.bool true) ∧ Below W.heap.size W w' := by
  obtain ⟨a, cap, b, off, E, rfl, hE⟩ := open_edges o0 h0 (up_arg hk (by simp))
  obtain ⟨x0, rfl⟩ := open_intw o1
  have HS := Lib.hid (speaks11_any W)
  have HEA := Lib.hid hE
  obtain ⟨m, em⟩ : ∃ m, E.length = m := ⟨_, rfl⟩
  rw [em]
  have hm9 : (m : Int) ≤ 1048576 := by have := hE.1; omega
  have EM := Lib.hid em
  clear o0 h0 o1 h1 hk hE em
  generalize hP : (fun (e : Ending) (W' : World) => e = .returned (.bool true) ∧ Below W.heap.size W W') = PP
  have HP := Lib.hid hP
  clear hP
  go_enter Try.func6, Try.ntmps6
  go_wp2_with fail
  refine HS.out.mono ?_
  rintro x w0 ⟨rfl, b0⟩
  obtain ⟨g, cp, w1, hr1, hg1, hl1, ha1, b1⟩ := run_copyE w0 a b off cap E (HEA.out.below b0) 22
  rw [EM.out] at hr1
  have HR1 := Lib.hid hr1
  have HA1 := Lib.hid ha1
  have B1 := Lib.hid (btr b0 b1)
  clear b0 hr1 hg1 hl1 ha1 b1 HS
  go_wp2_with (first | (at_builtin; refine wpList_plain rfl fun K hK => ?_; refine Lib.wp_append_run _ (.tmp 14) (.tmp 15) _ _ rfl _ _ rfl rfl _ _ HR1.out (hK _ _ ?_)))
  go_loopw [6, 5] (fun i v wx => ∃ (k g cp ml : Nat) (L : List Eg), k ≤ m ∧ i = .int .i64 k ∧ v = .slice (some ⟨g, 0, none⟩) ml cp ∧ Hid (L.length = ml ∧ ml + k ≤ m ∧ EgArg wx (some ⟨g, 0, none⟩) g 0 cp L) ∧ Hid (Below W.heap.size W wx)) (fun i _ _ => m - (intOf i).toNat)
  case atStart => exact ⟨0, g, cp, m, E, Nat.zero_le _, rfl, rfl, ⟨EM.out, Nat.le_refl _, HA1.out⟩, B1.out⟩
  case round =>
    obtain ⟨k, g', cp', ml, L, hk, rfl, rfl, HL, HB⟩ := hrel
    have c1 : (k : Int) ≤ (m : Int) := by omega
    have hml9 : (ml : Int) ≤ 1048576 := by have := HL.out.2.1; omega
    go_wp2_with fail
    refine (HL.out.2.2.cyc HL.out.1 (Frm.refl (fun _ => False) wr) (fun h => h) x0).mono ?_
    rintro e w2 ⟨v7, o, rfl, r7, q7, b2⟩
    have HRL := Lib.hid (res_real r7)
    have B2 := Lib.hid b2
    obtain ⟨n, hn⟩ : ∃ n, o.length = n := ⟨_, rfl⟩
    have HN := Lib.hid hn
    have hn9 : (n : Int) ≤ 1048576 := by
      have h1 := res_len r7
      have h2 := HL.out.2.2.1
      omega
    obtain ⟨A7, c7, e7, k7, -⟩ := q7.form
    rw [icells_length, hn] at e7 k7
    subst e7
    have Q7 := Lib.hid q7
    clear r7 q7 b2 hn
    rcases nil_or o with rfl | ⟨y0, r0, ho⟩
    · obtain rfl : n = 0 := by rw [← HN.out]; rfl
      clear hn9 k7
      go_wp2_with fail
      refine ((HL.out.2.2.below B2.out).rreach HL.out.1 x0 x0).mono ?_
      rintro e w3 ⟨t, rfl, ht, b3⟩
      obtain rfl : t = false := by
        cases t with
        | false => rfl
        | true => exact absurd (ht.1 rfl) HRL.out.none
      have HF := Lib.hid (show PP (.returned (.bool true)) w3 by
        rw [← HP.out]
        exact ⟨rfl, btr (btr HB.out B2.out) b3⟩)
      clear ht b3
      go_wp2_with fail
      exact HF.out
    · have hpos : ((n : Int) == 0) = false := by have := HN.out; rw [ho] at this; simp at this; simp; omega
      have HV := Lib.hid (Q7.out.vic (by have := HN.out; unfold maxLen; omega))
      have HO := Lib.hid ho
      clear ho
      go_wp2_with fail
      refine HV.out.mono ?_
      rintro e w3 ⟨z, rfl, hz, rfl⟩
      have hzo : z ∈ o := by
        rcases hz with ⟨e, _⟩ | ⟨h, _⟩
        · rw [HO.out] at e; cases e
        · exact h
      obtain ⟨y, hy⟩ := HRL.out.waits z hzo
      have HLT := Lib.hid (show (dropV L z).length < L.length from filter_lt ((mem_Sx ..).1 hy) (by simp))
      have HG2 := Lib.hid (HL.out.2.2.below B2.out)
      have BW2 := Lib.hid (btr HB.out B2.out)
      obtain ⟨B, hB⟩ : ∃ x, w3.heap.size = x := ⟨_, rfl⟩
      have HBS := Lib.hid hB
      obtain ⟨w4, hw4⟩ : ∃ x, w3.alloc (.cells #[] 27) = x := ⟨_, rfl⟩
      have OW4 := Lib.hid (show OwEd w4 w3.heap.size (.slice (some ⟨w3.heap.size, 0, none⟩) 0 0) [] by rw [← hw4]; exact edges_made w3)
      have B4 := Lib.hid (show Below w3.heap.size w3 w4 by rw [← hw4]; exact (Below.refl _ _).alloc (Nat.le_refl _) _)
      have HW4 := Lib.hid hw4
      rw [hB] at OW4
      clear hw4 hB hz hzo hy HRL HV HO Q7 k7 hn9 hpos HN
      go_wp2_with fail
      try rw [HW4.out]
      try rw [HBS.out]
      go_loopw [39, 9] (fun i v wx => ∃ (j : Nat), j ≤ ml ∧ i = .int .i64 j ∧ Hid (OwEd wx B v (dropV (L.take j) z)) ∧ Below w3.heap.size w3 wx) (fun i _ _ => ml - (intOf i).toNat)
      case atStart => exact ⟨0, Nat.zero_le _, rfl, OW4.out, B4.out⟩
      case round =>
        obtain ⟨j, hj, rfl, HO, hb⟩ := hrel
        by_cases c : j < ml
        · have c2 : (j : Int) < (ml : Int) := by omega
          obtain ⟨u, v, hx⟩ : ∃ u v, L[j]? = some (u, v) := ⟨_, _, List.getElem?_eq_getElem (by rw [HL.out.1]; exact c)⟩
          have a0 := (HG2.out.below hb).2.2.1.c0 j u v hx
          have a1 := (HG2.out.below hb).2.2.1.c1 j u v hx
          rw [Nat.zero_add] at a0 a1
          have HTK := Lib.hid (show dropV (L.take (j + 1)) z = dropV (L.take j) z ++ if (!(u == z) && !(v == z)) = true then [(u, v)] else [] by
            unfold dropV
            rw [List.take_add_one, hx, List.filter_append]
            congr 1
            simp [List.filter_cons])
          have HX := Lib.hid hx
          have HBL := Lib.hid hb
          clear hx hb
          have HOA := Lib.hid (show OwEd (wr.alloc (.cells #[.int .i64 u, .int .i64 v] 27)) B u9 (dropV (L.take j) z) from ⟨HO.out.1.alloc _, HO.out.2⟩)
          have HBA := Lib.hid (HBL.out.alloc HBL.out.size (.cells #[.int .i64 u, .int .i64 v] 27))
          by_cases q1 : u = z
          · have t1 : (u != z) = false := by simpa using q1
            have HF := Lib.hid (show OwEd (wr.alloc (.cells #[.int .i64 u, .int .i64 v] 27)) B u9 (dropV (L.take (j + 1)) z) by
              rw [HTK.out, if_neg (by simp [q1]), List.append_nil]
              exact HOA.out)
            clear q1
            go_wp2_with fail
            exact ⟨⟨j + 1, by omega, by go_num, HF, HBA.out⟩, by simp [intOf]; omega⟩
          · have t1 : (u != z) = true := by simpa using q1
            by_cases q2 : v = z
            · have t2 : (v != z) = false := by simpa using q2
              have HF := Lib.hid (show OwEd (wr.alloc (.cells #[.int .i64 u, .int .i64 v] 27)) B u9 (dropV (L.take (j + 1)) z) by
                rw [HTK.out, if_neg (by simp [q2]), List.append_nil]
                exact HOA.out)
              clear q1 q2
              go_wp2_with fail
              exact ⟨⟨j + 1, by omega, by go_num, HF, HBA.out⟩, by simp [intOf]; omega⟩
            · have t2 : (v != z) = true := by simpa using q2
              have hB' : B ≤ (wr.alloc (.cells #[.int .i64 u, .int .i64 v] 27)).heap.size := by have := HBA.out.size; have := HBS.out; omega
              obtain ⟨v6, w6, hr6, ow6, b6⟩ := run_pushE _ B u9 _ HOA.out hB' [(u, v)] #[.int .i64 u, .int .i64 v] rfl 1 rfl (by
                have h1 : (dropV (L.take j) z).length ≤ (L.take j).length := List.length_filter_le _ _
                have h2 : (L.take j).length ≤ L.length := by rw [List.length_take]; omega
                have h3 := HL.out.1
                simp
                omega) 22
              rw [show (wr.alloc (.cells #[.int .i64 u, .int .i64 v] 27)).heap.size = wr.heap.size + 1 by simp] at hr6
              have HR6 := Lib.hid hr6
              have HF := Lib.hid (show OwEd w6 B v6 (dropV (L.take (j + 1)) z) by
                rw [HTK.out, if_pos (by simp [q1, q2])]
                exact ow6)
              have HB6 := Lib.hid (show Below w3.heap.size w3 w6 by
                have hs := HBS.out
                subst hs
                exact HBA.out.trans b6)
              clear hr6 ow6 b6 hB' q1 q2
              go_wp2_with (first | (at_builtin; refine wpList_plain rfl fun K hK => ?_; refine Lib.wp_append_run _ (.tmp 53) (.tmp 55) _ _ rfl _ _ rfl rfl _ _ HR6.out (hK _ _ ?_)))
              exact ⟨⟨j + 1, by omega, by go_num, HF, HB6.out⟩, by simp [intOf]; omega⟩
        · obtain rfl : j = ml := by omega
          have ho := HO.out
          rw [List.take_of_length_le (by rw [HL.out.1]; exact Nat.le_refl _)] at ho
          have hlt := HLT.out
          obtain ⟨g9, cp9, e9, -, -, ha9⟩ := OwEd.arg ho (by have := HL.out.2.2.1; omega)
          obtain ⟨d, hd⟩ : ∃ d, (dropV L z).length = d := ⟨_, rfl⟩
          rw [hd] at e9 hlt
          subst e9
          rw [HL.out.1] at hlt
          have c5 : (d : Int) < (j : Int) := by omega
          have hkm := HL.out.2.1
          have HF := Lib.hid (show (dropV L z).length = d ∧ d + (k + 1) ≤ m ∧ EgArg wr (some ⟨g9, 0, none⟩) g9 0 cp9 (dropV L z) from ⟨hd, by omega, ha9⟩)
          have HBB := Lib.hid (btr BW2.out hb)
          clear ho ha9 hb hd HO
          go_wp2_with fail
          exact ⟨⟨k + 1, g9, cp9, d, _, by omega, by go_num, rfl, HF, HBB⟩, by simp [intOf]; omega⟩

set_option maxRecDepth 100000 in
theorem lifted (os : Os) (started : os.Started) (H : Type) (enc : TypeId × Value → H) (F : Stop.Interp) :
    ReturnsInHanded {} Try.checked os 6 .any ((Rows.OpenSpec.upto Rows.waitsBreaksSpec).pre6 enc Try.prog Try.f6 Rows.waitsBreaksUptoRow.domain false) (((Rows.OpenSpec.upto Rows.waitsBreaksSpec).at F).post enc Try.prog Try.f6 false true false false) := by
  refine returnsInHanded_of_cond (C := Try.checked) (s := Rows.OpenSpec.upto Rows.waitsBreaksSpec) (k := Rows.uptoSmall) rfl own started (by kernel_rfl) Try.func6
    (OpenSpec.witness (enc := enc) (C := Try.checked) (s := Rows.OpenSpec.upto Rows.waitsBreaksSpec) (k := Rows.uptoSmall) rfl false ⟨#[], #[.slice none 0 0, .int .i64 0], []⟩ 8 (by kernel_rfl) (by kernel_rfl) (by kernel_rfl)
      (x := ([.nil, .lit (.int .i64 0)], [], [])) (by kernel_rfl) rfl (by kernel_rfl)) ?_
  intro W base args ds gs before hval0 hW _ hk0 _
  have hval : ∀ (j : Nat) t v, Try.f6.params[j]? = some t → args[j]? = some v → Value.okWide Try.prog W .any base t v := hval0
  have hW' := hW
  obtain ⟨p, q, hA0, hV, rfl, hfz, hnd⟩ := hW
  have hA : DataW.TrodAll enc Try.prog W 0 (fun _ => true) true Try.f6.params.toList args.toList ds p := hA0
  rw [Try.params6] at hA hval
  obtain ⟨v0, vs0, d0, ds0, p0, q0, hargs, rfl, rfl, h0, r0⟩ := trodAll_cons hA
  obtain ⟨v1, vs1, d1, ds1, p1, q1, rfl, rfl, rfl, h1, r1⟩ := trodAll_cons r0
  obtain ⟨rfl, rfl, rfl⟩ := trodAll_nil r1
  obtain rfl : args = #[v0, v1] := by cases args; simp_all
  obtain ⟨rfl, rfl⟩ := trodVars_none hV
  have hk : Rows.uptoSmall H [d0, d1] = true := hk0
  have lt0 : ∀ x ∈ p0, x.block < W.heap.size := by obtain ⟨m, hm⟩ := h0; exact DataW.trod_lt m _ _ _ hm
  have lt1 : ∀ x ∈ p1, x.block < W.heap.size := by obtain ⟨m, hm⟩ := h1; exact DataW.trod_lt m _ _ _ hm
  refine (walk (enc := enc) base v0 d0 p0 v1 d1 p1 W (hval 0 22 v0 rfl rfl) h0 (hval 1 3 v1 rfl rfl) h1 hk).mono fun e W' ⟨he, bel⟩ => ?_
  subst he
  exact ⟨_, rfl, _, _, _, [], _, [], hW', trodAll_mk1 (shut_bool Try.underlying4 _), (trodAll_cons_mk (Below.trod laidOut (by kernel_rfl) (of_decide_eq_true (by kernel_rfl)) h0 bel lt0) (trodAll_cons_mk (Below.trod laidOut (by kernel_rfl) (of_decide_eq_true (by kernel_rfl)) h1 bel lt1) trodAll_mk0)), rfl, bel.frame _, fun h => by cases h⟩

theorem over : Rows.waitsBreaksUptoRow.holds Try.pinned (Rows.OpenSpec.upto Rows.waitsBreaksSpec) :=
  OpenClaim.holds_of_cond 6 Try.f6 rfl rfl rfl rfl rfl rfl rfl ⟨rfl, rfl, rfl, rfl, rfl⟩ rfl rfl rfl rfl rfl (by kernel_rfl) Try.func6 (by kernel_rfl)
    (of_decide_eq_true (by kernel_rfl)) (by unfold Func.isWrapper; first | (rw [if_pos (by decide +kernel)]; kernel_rfl) | (rw [if_neg (by decide +kernel)]; exact ⟨rfl, rfl⟩))
    (fun os started H enc _ F => lifted os started H enc F)

theorem proved : Rows.WaitsBreaksUptoSaid :=
  over
end Go.Proofs.Ytlhipnklljjahaa.waitsBreaks
