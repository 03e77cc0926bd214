/-
  WaitsReal answers true at any list of edges and any number, of a bulk of at most 1048576: what the search finds is a cycle through the number, none twice, and it finds one where there is one.
  Conditions: none but the row's own.
-/
import Derived.Test.YtlhipnklljjahaaWt26
import Derived.Test.YtlhipnklljjahaaRows
import Derived.WalkKit
import Derived.ProofKit
import Derived.OpenShut
import Derived.ShutString
import Derived.ChangeOld
import Derived.Below
import Derived.Carry
import Derived.JoinedCond
namespace Go.Proofs.Ytlhipnklljjahaa.waitsReal
open Go.ChangeShapes Go.WideShapes Go.ChangeAt Go.RowKit
open Go.Joins
set_option linter.unusedVariables false

theorem own : ownKnob Try.prog.godebug = none := by kernel_rfl
theorem laidOut : laidOutB Try.prog = true := by kernel_rfl

set_option maxRecDepth 100000 in

set_option maxHeartbeats 4000000 in
theorem walk {H : Type} {enc : TypeId × Value → H} (base : Nat) (v0 : Value) (d0 : DataW H) (p0 : List MemPlace) (v1 : Value) (d1 : DataW H) (p1 : List MemPlace) (W : World)
    (o0 : Value.okWide Try.prog W .any base 22 v0) (h0 : DataW.Trod enc Try.prog W 0 (fun _ => true) true 22 v0 d0 p0)
    (o1 : Value.okWide Try.prog W .any base 3 v1) (h1 : DataW.Trod enc Try.prog W 0 (fun _ => true) true 3 v1 d1 p1)
    (hk : Rows.uptoSmall H [d0, d1] = true) :
    Calls Try.prog 4 #[v0, v1] W fun e w' => e = .returned (.bool true) ∧ Below W.heap.size W w' := by
  obtain ⟨a, cap, b, off, E, rfl, hE⟩ := open_edges o0 h0 (up_arg hk (by simp))
  obtain ⟨x0, rfl⟩ := open_intw o1
  have HS := Lib.hid (speaks11_any W)
  have HEA := Lib.hid hE
  obtain ⟨m, em⟩ : ∃ m, E.length = m := ⟨_, rfl⟩
  rw [em]
  have hm9 : (m : Int) ≤ 1048576 := by have := hE.1; omega
  have EM := Lib.hid em
  clear o0 h0 o1 h1 hk hE em
  generalize hP : (fun (e : Ending) (W' : World) => e = .returned (.bool true) ∧ Below W.heap.size W W') = PP
  have HP := Lib.hid hP
  clear hP
  go_enter Try.func4, Try.ntmps4
  go_wp2_with fail
  refine HS.out.mono ?_
  rintro x w0 ⟨rfl, b0⟩
  obtain ⟨g, cp, w1, hr1, hg1, hl1, ha1, b1⟩ := run_copyE w0 a b off cap E (HEA.out.below b0) 22
  rw [EM.out] at hr1
  have HR1 := Lib.hid hr1
  have HA1 := Lib.hid ha1
  have B1 := Lib.hid (btr b0 b1)
  clear b0 hr1 hg1 hl1 ha1 b1 HS
  go_wp2_with (first | (at_builtin; refine wpList_plain rfl fun K hK => ?_; refine Lib.wp_append_run _ (.tmp 16) (.tmp 17) _ _ rfl _ _ rfl rfl _ _ HR1.out (hK _ _ ?_)))
  refine (HA1.out.cyc EM.out (Frm.refl (fun _ => False) w1) (fun h => h) x0).mono ?_
  rintro e w2 ⟨v5, o, rfl, r5, q5, b2⟩
  have R5 := Lib.hid r5
  have HRL := Lib.hid (res_real r5)
  have B2 := Lib.hid (btr B1.out b2)
  obtain ⟨n, hn⟩ : ∃ n, o.length = n := ⟨_, rfl⟩
  have HN := Lib.hid hn
  have hn9 : (n : Int) ≤ 1048576 := by
    have h1 := res_len r5
    have h2 := HEA.out.1
    omega
  obtain ⟨A5, c5, e5, k5, -⟩ := q5.form
  rw [icells_length, hn] at e5 k5
  subst e5
  have Q5 := Lib.hid q5
  clear r5 q5 b2 hn
  go_wp2_with fail
  refine ((HEA.out.below B2.out).rreach EM.out x0 x0).mono ?_
  rintro e w3 ⟨t, rfl, ht, b3⟩
  have B3 := Lib.hid (btr B2.out b3)
  have Q3 := Lib.hid (Q5.out.below b3)
  rcases nil_or o with rfl | ⟨y0, r0, ho⟩
  · obtain rfl : n = 0 := by rw [← HN.out]; rfl
    obtain rfl : t = false := by
      cases t with
      | false => rfl
      | true => exact absurd (ht.1 rfl) HRL.out.none
    have HF := Lib.hid (show PP (.returned (.bool true)) w3 by
      rw [← HP.out]
      exact ⟨rfl, B3.out⟩)
    clear ht b3 hn9 k5
    go_wp2_with fail
    go_loopw [31] (fun i wx => i = .int .i64 0 ∧ w3 = wx) (fun i _ => 0)
    case atStart => exact ⟨rfl, rfl⟩
    case round =>
      obtain ⟨rfl, rfl⟩ := hrel
      go_wp2_with fail
      exact HF.out
  · obtain ⟨hf0, hfn, hfr, hfx⟩ := HRL.out.facts (by rw [ho]; simp)
    obtain rfl : t = true := ht.2 hfr
    have hpos : (0 : Int) < (n : Int) := by rw [← HN.out, ho]; simp
    have hposN : 0 < n := by omega
    have H0 := Lib.hid hf0
    have HND := Lib.hid hfn
    have HX := Lib.hid hfx
    obtain ⟨g5, o5, c5', e5, -, -, -, -, -, d5⟩ := Q3.out.at (by rw [icells_length, HN.out]; omega)
    rw [icells_length, HN.out] at e5
    injection e5 with e5 e5a e5b
    subst e5 e5b
    have HD5 := Lib.hid (fun (wx : World) (hb : Below w3.heap.size w3 wx) (i : Nat) (x : Int) (hi : o[i]? = some x) => cell_lt (d5 i _ (icells_at hi)) hb)
    clear ht b3 ho d5 hf0 hfn hfr hfx
    go_wp2_with fail
    go_loopw [31] (fun i wx => ∃ k : Nat, k ≤ n ∧ i = .int .i64 k ∧ Below w3.heap.size w3 wx) (fun i _ => n - (intOf i).toNat)
    case atStart => exact ⟨0, Nat.zero_le _, rfl, Below.refl _ _⟩
    case round =>
      obtain ⟨k, hk, rfl, hb⟩ := hrel
      by_cases c : k < n
      · have c1 : (k : Int) < (n : Int) := by omega
        obtain ⟨x, hx⟩ : ∃ x, o[k]? = some x := ⟨_, List.getElem?_eq_getElem (by rw [HN.out]; exact c)⟩
        obtain ⟨y, hy, hys⟩ := HX.out k x hx
        rw [HN.out] at hy
        obtain ⟨k2, hk2⟩ : ∃ k2, (k + 1) % n = k2 := ⟨_, rfl⟩
        rw [hk2] at hy
        have hk2l : k2 < n := by rw [← hk2]; exact Nat.mod_lt _ (by omega)
        have d0 := HD5.out wr hb k x hx
        have d1 := HD5.out wr hb k2 y hy
        have hmod : Int.tmod ((k : Int) + 1) (n : Int) = (k2 : Int) := by rw [← hk2]; rfl
        have c2 : (k2 : Int) < (n : Int) := by omega
        have n0 : ((n : Int) == 0) = false := by simp; omega
        have HXY := Lib.hid (show (x, y) ∈ E from (mem_Sx ..).1 hys)
        have HXX := Lib.hid hx
        have HBL := Lib.hid hb
        clear hx hy hys hk2 hb
        have c5k : (k : Int) ≤ (c5 : Int) := by omega
        have k0 : (0 : Int) ≤ (k : Int) := by omega
        go_wp2_with fail
        go_loopw [46, 9] (fun i v wx => ∃ (j : Nat) (t : Bool), j ≤ m ∧ i = .int .i64 j ∧ v = .bool t ∧ Hid (t = true ↔ (x, y) ∈ E.take j) ∧ Below w3.heap.size w3 wx) (fun i _ _ => m - (intOf i).toNat)
        case atStart => exact ⟨0, false, Nat.zero_le _, rfl, rfl, by simp [Hid], HBL.out⟩
        case round =>
          clear d0 d1 hmod n0 c5k
          obtain ⟨j, t, hj, rfl, rfl, HT, hb⟩ := hrel
          by_cases c : j < m
          · have c3 : (j : Int) < (m : Int) := by omega
            obtain rfl : a = some ⟨b, off, none⟩ := by rcases HEA.out.2.1 with h | h; (have := EM.out; omega); exact h
            obtain ⟨u, v, hx⟩ : ∃ u v, E[j]? = some (u, v) := ⟨_, _, List.getElem?_eq_getElem (by rw [EM.out]; exact c)⟩
            have a0 := (HEA.out.below (btr B3.out hb)).2.2.1.c0 j u v hx
            have a1 := (HEA.out.below (btr B3.out hb)).2.2.1.c1 j u v hx
            have hT : E.take (j + 1) = E.take j ++ [(u, v)] := by rw [List.take_add_one, hx]; rfl
            have HN2 := Lib.hid (show ∀ s : Bool, (s = true ↔ (t = true ∨ (u = x ∧ v = y))) → (s = true ↔ (x, y) ∈ E.take (j + 1)) from fun s hs => by
              rw [hs, hT, List.mem_append, HT.out, List.mem_singleton, Prod.mk.injEq]
              constructor
              · rintro (h | ⟨h1, h2⟩)
                · exact .inl h
                · exact .inr ⟨h1.symm, h2.symm⟩
              · rintro (h | ⟨h1, h2⟩)
                · exact .inl h
                · exact .inr ⟨h1.symm, h2.symm⟩)
            have HB2 := Lib.hid (hb.alloc (Nat.le_trans hb.size (Nat.le_refl _)) (.cells #[.int .i64 u, .int .i64 v] 27))
            clear hx hT HT hb
            cases t with
            | true =>
              have HF := Lib.hid (HN2.out true (by simp))
              clear HN2
              go_wp2_with fail
              exact ⟨⟨j + 1, true, by omega, by go_num, rfl, HF, HB2.out⟩, by simp [intOf]; omega⟩
            | false =>
              by_cases q1 : u = x
              · have t1 : (u == x) = true := by simpa using q1
                by_cases q2 : v = y
                · have t2 : (v == y) = true := by simpa using q2
                  have HF := Lib.hid (HN2.out true (by simp [q1, q2]))
                  clear HN2 q1 q2
                  go_wp2_with fail
                  exact ⟨⟨j + 1, true, by omega, by go_num, rfl, HF, HB2.out⟩, by simp [intOf]; omega⟩
                · have t2 : (v == y) = false := by simpa using q2
                  have HF := Lib.hid (HN2.out false (by simp [q1, q2]))
                  clear HN2 q1 q2
                  go_wp2_with fail
                  exact ⟨⟨j + 1, false, by omega, by go_num, rfl, HF, HB2.out⟩, by simp [intOf]; omega⟩
              · have t1 : (u == x) = false := by simpa using q1
                have HF := Lib.hid (HN2.out false (by simp [q1]))
                clear HN2 q1
                go_wp2_with fail
                exact ⟨⟨j + 1, false, by omega, by go_num, rfl, HF, HB2.out⟩, by simp [intOf]; omega⟩
          · obtain rfl : j = m := by omega
            obtain rfl : t = true := HT.out.2 (by rw [List.take_of_length_le (by rw [EM.out]; exact Nat.le_refl _)]; exact HXY.out)
            have HBX := Lib.hid hb
            have c5k : (k : Int) ≤ (c5 : Int) := by omega
            clear HT hb
            go_wp2_with fail
            go_loopw [68, 9] (fun i v wx => ∃ (l : Nat), l ≤ k ∧ i = .int .i64 l ∧ v = .bool true ∧ Below w3.heap.size w3 wx) (fun i _ _ => k - (intOf i).toNat)
            case atStart => exact ⟨0, Nat.zero_le _, rfl, rfl, HBX.out⟩
            case round =>
              obtain ⟨l, hl, rfl, rfl, hb⟩ := hrel
              by_cases c : l < k
              · have c4 : (l : Int) < (k : Int) := by omega
                obtain ⟨z, hz⟩ : ∃ z, o[l]? = some z := ⟨_, List.getElem?_eq_getElem (by rw [HN.out]; omega)⟩
                have d2 := HD5.out _ hb l z hz
                have hne : z ≠ x := fun e => by
                  have h1 := (List.getElem?_eq_some_iff.1 hz)
                  have h2 := (List.getElem?_eq_some_iff.1 HXX.out)
                  obtain ⟨h1, g1⟩ := h1
                  obtain ⟨h2, g2⟩ := h2
                  have := (List.getElem_inj (i := l) (j := k) HND.out).1 (by rw [g1, g2, e])
                  omega
                have q : (z != x) = true := by simpa using hne
                have HBL2 := Lib.hid hb
                clear hz hne hb
                go_wp2_with fail
                exact ⟨⟨l + 1, by omega, by go_num, rfl, HBL2.out⟩, by simp [intOf]; omega⟩
              · obtain rfl : l = k := by omega
                have d3 := HD5.out _ hb 0 x0 H0.out
                rw [Nat.add_zero] at d3
                have q : (x0 != x0) = false := by simp
                have HBL2 := Lib.hid hb
                clear hb
                go_wp2_with fail
                exact ⟨⟨l + 1, by omega, by go_num, HBL2.out⟩, by simp [intOf]; omega⟩
      · obtain rfl : k = n := by omega
        have HF := Lib.hid (show PP (.returned (.bool true)) wr by
          rw [← HP.out]
          exact ⟨rfl, btr B3.out hb⟩)
        clear hb
        go_wp2_with fail
        exact HF.out

set_option maxRecDepth 100000 in
theorem lifted (os : Os) (started : os.Started) (H : Type) (enc : TypeId × Value → H) (F : Stop.Interp) :
    ReturnsInHanded {} Try.checked os 4 .any ((Rows.OpenSpec.upto Rows.waitsRealSpec).pre6 enc Try.prog Try.f4 Rows.waitsRealUptoRow.domain false) (((Rows.OpenSpec.upto Rows.waitsRealSpec).at F).post enc Try.prog Try.f4 false true false false) := by
  refine returnsInHanded_of_cond (C := Try.checked) (s := Rows.OpenSpec.upto Rows.waitsRealSpec) (k := Rows.uptoSmall) rfl own started (by kernel_rfl) Try.func4
    (OpenSpec.witness (enc := enc) (C := Try.checked) (s := Rows.OpenSpec.upto Rows.waitsRealSpec) (k := Rows.uptoSmall) rfl false ⟨#[], #[.slice none 0 0, .int .i64 0], []⟩ 8 (by kernel_rfl) (by kernel_rfl) (by kernel_rfl)
      (x := ([.nil, .lit (.int .i64 0)], [], [])) (by kernel_rfl) rfl (by kernel_rfl)) ?_
  intro W base args ds gs before hval0 hW _ hk0 _
  have hval : ∀ (j : Nat) t v, Try.f4.params[j]? = some t → args[j]? = some v → Value.okWide Try.prog W .any base t v := hval0
  have hW' := hW
  obtain ⟨p, q, hA0, hV, rfl, hfz, hnd⟩ := hW
  have hA : DataW.TrodAll enc Try.prog W 0 (fun _ => true) true Try.f4.params.toList args.toList ds p := hA0
  rw [Try.params4] at hA hval
  obtain ⟨v0, vs0, d0, ds0, p0, q0, hargs, rfl, rfl, h0, r0⟩ := trodAll_cons hA
  obtain ⟨v1, vs1, d1, ds1, p1, q1, rfl, rfl, rfl, h1, r1⟩ := trodAll_cons r0
  obtain ⟨rfl, rfl, rfl⟩ := trodAll_nil r1
  obtain rfl : args = #[v0, v1] := by cases args; simp_all
  obtain ⟨rfl, rfl⟩ := trodVars_none hV
  have hk : Rows.uptoSmall H [d0, d1] = true := hk0
  have lt0 : ∀ x ∈ p0, x.block < W.heap.size := by obtain ⟨m, hm⟩ := h0; exact DataW.trod_lt m _ _ _ hm
  have lt1 : ∀ x ∈ p1, x.block < W.heap.size := by obtain ⟨m, hm⟩ := h1; exact DataW.trod_lt m _ _ _ hm
  refine (walk (enc := enc) base v0 d0 p0 v1 d1 p1 W (hval 0 22 v0 rfl rfl) h0 (hval 1 3 v1 rfl rfl) h1 hk).mono fun e W' ⟨he, bel⟩ => ?_
  subst he
  exact ⟨_, rfl, _, _, _, [], _, [], hW', trodAll_mk1 (shut_bool Try.underlying4 _), (trodAll_cons_mk (Below.trod laidOut (by kernel_rfl) (of_decide_eq_true (by kernel_rfl)) h0 bel lt0) (trodAll_cons_mk (Below.trod laidOut (by kernel_rfl) (of_decide_eq_true (by kernel_rfl)) h1 bel lt1) trodAll_mk0)), rfl, bel.frame _, fun h => by cases h⟩

theorem over : Rows.waitsRealUptoRow.holds Try.pinned (Rows.OpenSpec.upto Rows.waitsRealSpec) :=
  OpenClaim.holds_of_cond 4 Try.f4 rfl rfl rfl rfl rfl rfl rfl ⟨rfl, rfl, rfl, rfl, rfl⟩ rfl rfl rfl rfl rfl (by kernel_rfl) Try.func4 (by kernel_rfl)
    (of_decide_eq_true (by kernel_rfl)) (by unfold Func.isWrapper; first | (rw [if_pos (by decide +kernel)]; kernel_rfl) | (rw [if_neg (by decide +kernel)]; exact ⟨rfl, rfl⟩))
    (fun os started H enc _ F => lifted os started H enc F)

theorem proved : Rows.WaitsRealUptoSaid :=
  over
end Go.Proofs.Ytlhipnklljjahaa.waitsReal
