/-
  BtreeFills answers true at any list of keys and any list of places, of a bulk of at most 1048576: at each step the tree's shape is sound, it holds as many entries as were put and not dropped, and at the end none is left.
  Conditions: none but the row's own.
-/
import Derived.Test.YtnhppciiampahaaTr26
import Derived.Test.YtnhppciiampahaaRows
import Derived.WalkKit
import Derived.ProofKit
import Derived.OpenShut
import Derived.ShutString
import Derived.ChangeOld
import Derived.Below
import Derived.Carry
import Derived.JoinedCond
namespace Go.Proofs.Ytnhppciiampahaa.btreeFills
open Go.ChangeShapes Go.WideShapes Go.ChangeAt Go.RowKit
open Go.Joins
set_option linter.unusedVariables false

theorem own : ownKnob Try.prog.godebug = none := by kernel_rfl
theorem laidOut : laidOutB Try.prog = true := by kernel_rfl


set_option maxHeartbeats 4000000 in
theorem walk {H : Type} {enc : TypeId × Value → H} (base : Nat) (v0 : Value) (d0 : DataW H) (p0 : List MemPlace) (v1 : Value) (d1 : DataW H) (p1 : List MemPlace) (W : World)
    (o0 : Value.okWide Try.prog W .any base 52 v0) (h0 : DataW.Trod enc Try.prog W 0 (fun _ => true) true 52 v0 d0 p0)
    (o1 : Value.okWide Try.prog W .any base 53 v1) (h1 : DataW.Trod enc Try.prog W 0 (fun _ => true) true 53 v1 d1 p1)
    (hk : Rows.uptoSmall H [d0, d1] = true) :
    Calls Try.prog 4 #[v0, v1] W fun e w' => e = .returned (.bool true) ∧ Below W.heap.size W w' := by
  obtain ⟨a, m, cap, b, off, kf, kv, rfl, hm, ha, hK⟩ := open_keys o0 h0 (up_arg hk (by simp))
  obtain ⟨a', m', cap', b', off', f, rfl, hm', ha', hl', hI⟩ := open_ints o1 h1 (up_arg hk (by simp))
  have HS := Lib.hid speaks_any
  clear o0 h0 o1 h1 hk
  go_enter Try.func4, Try.ntmps4
  go_wp2_with fail
  refine (HS.out _).mono ?_
  rintro x w0 ⟨rfl, b0⟩
  have K0 := Lib.hid (hK.below b0)
  have I0 := Lib.hid (show ∀ i, i < m' → w0.cell? ⟨b', off' + i, none⟩ = some (.int .i64 (f i)) from fun i hi => (b0.cell (hl' (by omega))).trans (hI i hi))
  have L0 := Lib.hid (show 0 < m' → b' < w0.heap.size from fun h => Nat.lt_of_lt_of_le (hl' h) b0.size)
  have B0 := Lib.hid b0
  clear hK hI hl' b0
  go_wp2_with fail
  refine (ft_new w0 m kf).mono ?_
  rintro x w1 ⟨t, rfl, hT⟩
  go_upto_region 7 with fail
  go_wp2_with fail
  go_loopw [20, 6] (fun i n wx => ∃ k c : Nat, k ≤ m ∧ c ≤ k ∧ i = .int .i64 k ∧ n = .int .i64 c ∧ FT w0 wx t 0 m kf c) (fun i _ _ => m - (intOf i).toNat)
  case atStart => exact ⟨0, 0, Nat.zero_le _, Nat.le_refl _, rfl, rfl, hT⟩
  case round =>
    obtain ⟨k, c, hk1, hc, rfl, rfl, hF⟩ := hrel
    by_cases q : k < m
    · have c1 : (k : Int) < (m : Int) := by omega
      have K1 := Lib.hid (K0.out.below hF.bel)
      have d0 := K1.out.cell k q
      obtain rfl : a = some ⟨b, off, none⟩ := by
        rcases ha with g | g
        · omega
        · exact g
      have HCP := Lib.hid (copy_key (K1.out.key k q) (by have := K1.out.len k q; omega))
      have HF := Lib.hid hF
      clear hF ha ha'
      go_wp2_with fail
      refine HCP.out.mono ?_
      rintro x w2 ⟨v, rfl, hv, b2⟩
      have HF2 := Lib.hid (HF.out.below b2)
      have HV := Lib.hid hv
      clear hv b2 d0
      go_wp2_with fail
      refine (ft_put HF2.out q (by omega) HV.out k).mono ?_
      rintro x w3 (⟨rfl, h3⟩ | ⟨rfl, h3⟩)
      · have HF3 := Lib.hid h3
        clear h3
        go_wp2_with fail
        refine (ft_shape HF3.out (by omega)).mono ?_
        rintro x w4 ⟨v4, rfl, h4, hS⟩
        have HF4 := Lib.hid h4
        rw [show ((c + 1 : Nat) : Int) = (c : Int) + 1 by omega] at hS
        have HS4 := Lib.hid hS
        clear h4 hS
        go_wp2_with fail
        refine HS4.out.mono ?_
        rintro x w5 ⟨rfl, rfl⟩
        go_wp2_with fail
        exact ⟨⟨k + 1, c + 1, by omega, by omega, by simp, by simp, HF4.out⟩, by simp [intOf]; omega⟩
      · have HF3 := Lib.hid h3
        clear h3
        go_wp2_with fail
        refine (ft_shape HF3.out (by omega)).mono ?_
        rintro x w4 ⟨v4, rfl, h4, hS⟩
        have HF4 := Lib.hid h4
        have HS4 := Lib.hid hS
        clear h4 hS
        go_wp2_with fail
        refine HS4.out.mono ?_
        rintro x w5 ⟨rfl, rfl⟩
        go_wp2_with fail
        exact ⟨⟨k + 1, c, by omega, by omega, by simp, rfl, HF4.out⟩, by simp [intOf]; omega⟩
    · have c1 : ¬ (k : Int) < (m : Int) := by omega
      obtain rfl : m = k := by omega
      have HF := Lib.hid hF
      clear hF
      go_upto_region 16 with fail
      go_wp2_with fail
      go_loopw [40, 6] (fun i n wx => ∃ q c : Nat, q ≤ m' ∧ c ≤ m ∧ i = .int .i64 q ∧ n = .int .i64 c ∧ FT w0 wx t 0 m kf c) (fun i _ _ => m' - (intOf i).toNat)
      case atStart => exact ⟨0, c, Nat.zero_le _, hc, rfl, rfl, HF.out⟩
      case round =>
        obtain ⟨k, c, hk1, hc, rfl, rfl, hF⟩ := hrel
        by_cases q : k < m'
        · have c1 : (k : Int) < (m' : Int) := by omega
          have d1 := ((hF.bel).cell (L0.out (by omega))).trans (I0.out k q)
          obtain rfl : a' = some ⟨b', off', none⟩ := by
            rcases ha' with g | g
            · omega
            · exact g
          have HF3 := Lib.hid hF
          have K1 := Lib.hid (K0.out.below hF.bel)
          clear hF ha'
          generalize f k = z at *
          by_cases x0 : 0 ≤ z
          · obtain ⟨j, rfl⟩ : ∃ j : Nat, z = j := ⟨z.toNat, by omega⟩
            by_cases x1 : j < m
            · have x2 : (j : Int) < (m : Int) := by omega
              have d0 := K1.out.cell j x1
              obtain rfl : a = some ⟨b, off, none⟩ := by
                rcases ha with g | g
                · omega
                · exact g
              have HCP := Lib.hid (copy_key (K1.out.key j x1) (by have := K1.out.len j x1; omega))
              clear ha
              go_wp2_with fail
              refine HCP.out.mono ?_
              rintro x w2 ⟨v, rfl, hv, b2⟩
              have HF2 := Lib.hid (HF3.out.below b2)
              have HV := Lib.hid hv
              clear hv b2 d0 d1 HF3 K1
              go_wp2_with fail
              refine (ft_drop HF2.out (by omega) HV.out).mono ?_
              rintro x w3 (⟨n', hn', rfl, h3⟩ | ⟨rfl, h3⟩)
              · have HF3 := Lib.hid h3
                clear h3
                go_wp2_with fail
                refine (ft_len HF3.out).mono ?_
                rintro x w5 ⟨rfl, rfl⟩
                go_wp2_with fail
                refine (ft_shape HF3.out (by omega)).mono ?_
                rintro x w6 ⟨v6, rfl, h6, hS⟩
                have HF6 := Lib.hid h6
                have HS6 := Lib.hid hS
                clear h6 hS
                go_wp2_with fail
                refine HS6.out.mono ?_
                rintro x w7 ⟨rfl, rfl⟩
                go_wp2_with fail
                exact ⟨⟨k + 1, n', by omega, by omega, by simp, rfl, HF6.out⟩, by simp [intOf]; omega⟩
              · have HF3 := Lib.hid h3
                clear h3
                go_wp2_with fail
                refine (ft_len HF3.out).mono ?_
                rintro x w5 ⟨rfl, rfl⟩
                go_wp2_with fail
                refine (ft_shape HF3.out (by omega)).mono ?_
                rintro x w6 ⟨v6, rfl, h6, hS⟩
                have HF6 := Lib.hid h6
                have HS6 := Lib.hid hS
                clear h6 hS
                go_wp2_with fail
                refine HS6.out.mono ?_
                rintro x w7 ⟨rfl, rfl⟩
                go_wp2_with fail
                exact ⟨⟨k + 1, c, by omega, by omega, by simp, rfl, HF6.out⟩, by simp [intOf]; omega⟩
            · have x2 : ¬ (j : Int) < (m : Int) := by omega
              go_wp2_with fail
              refine (ft_len HF3.out).mono ?_
              rintro x w5 ⟨rfl, rfl⟩
              go_wp2_with fail
              refine (ft_shape HF3.out (by omega)).mono ?_
              rintro x w6 ⟨v6, rfl, h6, hS⟩
              have HF6 := Lib.hid h6
              have HS6 := Lib.hid hS
              clear h6 hS
              go_wp2_with fail
              refine HS6.out.mono ?_
              rintro x w7 ⟨rfl, rfl⟩
              go_wp2_with fail
              exact ⟨⟨k + 1, c, by omega, by omega, by simp, rfl, HF6.out⟩, by simp [intOf]; omega⟩
          · have x2 : ¬ 0 ≤ z := x0
            go_wp2_with fail
            refine (ft_len HF3.out).mono ?_
            rintro x w5 ⟨rfl, rfl⟩
            go_wp2_with fail
            refine (ft_shape HF3.out (by omega)).mono ?_
            rintro x w6 ⟨v6, rfl, h6, hS⟩
            have HF6 := Lib.hid h6
            have HS6 := Lib.hid hS
            clear h6 hS
            go_wp2_with fail
            refine HS6.out.mono ?_
            rintro x w7 ⟨rfl, rfl⟩
            go_wp2_with fail
            exact ⟨⟨k + 1, c, by omega, by omega, by simp, rfl, HF6.out⟩, by simp [intOf]; omega⟩
        · have c1 : ¬ (k : Int) < (m' : Int) := by omega
          have HF := Lib.hid hF
          clear hF
          go_upto_region 24 with fail
          go_wp2_with fail
          go_loopw [77] (fun i wx => ∃ q c : Nat, q ≤ m ∧ c ≤ m ∧ i = .int .i64 q ∧ FT w0 wx t q m kf c) (fun i _ => m - (intOf i).toNat)
          case atStart => exact ⟨0, c, Nat.zero_le _, hc, rfl, HF.out⟩
          case round =>
            obtain ⟨k, c, hk1, hc, rfl, hF⟩ := hrel
            by_cases q : k < m
            · have c1 : (k : Int) < (m : Int) := by omega
              have K1 := Lib.hid (K0.out.below hF.bel)
              have d0 := K1.out.cell k q
              obtain rfl : a = some ⟨b, off, none⟩ := by
                rcases ha with g | g
                · omega
                · exact g
              have HCP := Lib.hid (copy_key (K1.out.key k q) (by have := K1.out.len k q; omega))
              have HF := Lib.hid hF
              clear hF ha ha'
              go_wp2_with fail
              refine HCP.out.mono ?_
              rintro x w2 ⟨v, rfl, hv, b2⟩
              have HF2 := Lib.hid (HF.out.below b2)
              have HV := Lib.hid hv
              clear hv b2 d0
              go_wp2_with fail
              refine (ft_drop1 HF2.out (by omega) HV.out).mono ?_
              rintro x w3 ⟨bb, n', hn', rfl, h3⟩
              have HF3 := Lib.hid h3
              clear h3
              go_wp2_with fail
              exact ⟨⟨k + 1, n', by omega, by omega, by simp, HF3.out⟩, by simp [intOf]; omega⟩
            · have c1 : ¬ (k : Int) < (m : Int) := by omega
              obtain rfl : m = k := by omega
              obtain rfl := hF.done
              have HF := Lib.hid hF
              clear hF
              go_wp2_with fail
              refine (ft_len HF.out).mono ?_
              rintro x w5 ⟨rfl, rfl⟩
              go_wp2_with fail
              refine (ft_ents HF.out (by omega)).mono ?_
              rintro x w6 ⟨a6, c6, rfl, h6⟩
              have HF6 := Lib.hid h6
              clear h6
              go_wp2_with fail
              refine (ft_shape HF6.out (by omega)).mono ?_
              rintro x w7 ⟨v7, rfl, h7, hS⟩
              have HF7 := Lib.hid h7
              have HS7 := Lib.hid hS
              clear h7 hS
              go_wp2_with fail
              refine HS7.out.mono ?_
              rintro x w8 ⟨rfl, rfl⟩
              go_wp2_with fail
              go_ret
              exact ⟨rfl, B0.out.trans (HF7.out.bel.mono B0.out.size)⟩

set_option maxRecDepth 100000 in
theorem lifted (os : Os) (started : os.Started) (H : Type) (enc : TypeId × Value → H) (F : Stop.Interp) :
    ReturnsInHanded {} Try.checked os 4 .any ((Rows.OpenSpec.upto Rows.btreeFillsSpec).pre6 enc Try.prog Try.f4 Rows.btreeFillsUptoRow.domain false) (((Rows.OpenSpec.upto Rows.btreeFillsSpec).at F).post enc Try.prog Try.f4 false true false false) := by
  refine returnsInHanded_of_cond (C := Try.checked) (s := Rows.OpenSpec.upto Rows.btreeFillsSpec) (k := Rows.uptoSmall) rfl own started (by kernel_rfl) Try.func4
    (OpenSpec.witness (enc := enc) (C := Try.checked) (s := Rows.OpenSpec.upto Rows.btreeFillsSpec) (k := Rows.uptoSmall) rfl false ⟨#[], #[.slice none 0 0, .slice none 0 0], []⟩ 8 (by kernel_rfl) (by kernel_rfl) (by kernel_rfl)
      (x := ([.nil, .nil], [], [])) (by kernel_rfl) rfl (by kernel_rfl)) ?_
  intro W base args ds gs before hval0 hW _ hk0 _
  have hval : ∀ (j : Nat) t v, Try.f4.params[j]? = some t → args[j]? = some v → Value.okWide Try.prog W .any base t v := hval0
  have hW' := hW
  obtain ⟨p, q, hA0, hV, rfl, hfz, hnd⟩ := hW
  have hA : DataW.TrodAll enc Try.prog W 0 (fun _ => true) true Try.f4.params.toList args.toList ds p := hA0
  rw [Try.params4] at hA hval
  obtain ⟨v0, vs0, d0, ds0, p0, q0, hargs, rfl, rfl, h0, r0⟩ := trodAll_cons hA
  obtain ⟨v1, vs1, d1, ds1, p1, q1, rfl, rfl, rfl, h1, r1⟩ := trodAll_cons r0
  obtain ⟨rfl, rfl, rfl⟩ := trodAll_nil r1
  obtain rfl : args = #[v0, v1] := by cases args; simp_all
  obtain ⟨rfl, rfl⟩ := trodVars_none hV
  have hk : Rows.uptoSmall H [d0, d1] = true := hk0
  have lt0 : ∀ x ∈ p0, x.block < W.heap.size := by obtain ⟨m, hm⟩ := h0; exact DataW.trod_lt m _ _ _ hm
  have lt1 : ∀ x ∈ p1, x.block < W.heap.size := by obtain ⟨m, hm⟩ := h1; exact DataW.trod_lt m _ _ _ hm
  refine (walk (enc := enc) base v0 d0 p0 v1 d1 p1 W (hval 0 52 v0 rfl rfl) h0 (hval 1 53 v1 rfl rfl) h1 hk).mono fun e W' ⟨he, bel⟩ => ?_
  subst he
  exact ⟨_, rfl, _, _, _, [], _, [], hW', trodAll_mk1 (shut_bool Try.underlying4 _), (trodAll_cons_mk (Below.trod laidOut (by kernel_rfl) (of_decide_eq_true (by kernel_rfl)) h0 bel lt0) (trodAll_cons_mk (Below.trod laidOut (by kernel_rfl) (of_decide_eq_true (by kernel_rfl)) h1 bel lt1) trodAll_mk0)), rfl, bel.frame _, fun h => by cases h⟩

theorem over : Rows.btreeFillsUptoRow.holds Try.pinned (Rows.OpenSpec.upto Rows.btreeFillsSpec) :=
  OpenClaim.holds_of_cond 4 Try.f4 rfl rfl rfl rfl rfl rfl rfl ⟨rfl, rfl, rfl, rfl, rfl⟩ rfl rfl rfl rfl rfl (by kernel_rfl) Try.func4 (by kernel_rfl)
    (of_decide_eq_true (by kernel_rfl)) (by unfold Func.isWrapper; first | (rw [if_pos (by decide +kernel)]; kernel_rfl) | (rw [if_neg (by decide +kernel)]; exact ⟨rfl, rfl⟩))
    (fun os started H enc _ F => lifted os started H enc F)

theorem proved : Rows.BtreeFillsUptoSaid :=
  over
end Go.Proofs.Ytnhppciiampahaa.btreeFills
