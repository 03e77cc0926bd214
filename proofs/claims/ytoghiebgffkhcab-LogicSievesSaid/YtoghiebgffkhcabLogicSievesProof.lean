/-
  LogicSieves answers true at any list of verdicts: whether it lets a row through, and which error counts, is told exactly; the list stays.
  Conditions: none but the row's own.
-/
import Derived.Test.YtoghiebgffkhcabLog8
import Derived.Test.YtoghiebgffkhcabRows
import Derived.WalkKit
import Derived.ProofKit
import Derived.OpenShut
import Derived.ShutString
import Derived.ChangeOld
import Derived.Below
import Derived.Carry
import Derived.SizedLaws
namespace Go.Proofs.Ytoghiebgffkhcab.logicSieves
open Go.ChangeShapes Go.WideShapes Go.ChangeAt Go.RowKit
open Go.Joins
set_option linter.unusedVariables false

theorem own : ownKnob Try.prog.godebug = none := by kernel_rfl
theorem laidOut : laidOutB Try.prog = true := by kernel_rfl


set_option maxHeartbeats 4000000 in
theorem walk {H : Type} {enc : TypeId × Value → H} (base : Nat) (v0 : Value) (d0 : DataW H) (p0 : List MemPlace) (W : World)
    (o0 : Value.okWide Try.prog W .any base 31 v0) (h0 : DataW.Trod enc Try.prog W 0 (fun _ => true) true 31 v0 d0 p0)
    (hz : (DataW.weightsEach Try.prog [31] [d0]).all (· ≤ reachBytes) = true) :
    Calls Try.prog 4 #[v0] W fun e w' => e = .returned (.bool true) ∧ Below W.heap.size W w' := by
  obtain ⟨a, m, cap, b, off, tf, ef, rfl, hl, hm, ha, hA, hn, hd⟩ := open_vers o0 h0
  have r0 := reachD hz (j := 0) rfl rfl hl hd
  have hm2 : m ≤ maxLen := Nat.le_trans hl hm
  obtain ⟨i0, hi, hz0, hz1, hz2⟩ := info_parts infoD
  have hs := fun w => speaks4_any w
  have HS := Lib.hid hs
  have HA := Lib.hid ha
  clear hz hd o0 h0 hm hs ha
  have hm' : m ≤ 9223372036854775807 := by unfold maxLen at hm2; omega
  rcases hn with ⟨rfl, rfl, rfl⟩ | ⟨ad, rfl, had⟩
  · go_enter Try.func4, Try.ntmps4
    go_wp2_with fail
    refine (HS.out _).mono ?_
    rintro x w0 ⟨rfl, b0⟩
    have ho := World.ownsRow_made (e := 24) (size := 2) w0 #[] 0 (Nat.le_refl w0.heap.size) (by decide) rfl
    have HO := Lib.hid ho
    clear ho
    go_wp2_with (at_builtin; refine wpList_append_own_none rfl _ _ 31 rfl w0.heap.size 24 i0 2 Try.underlying31 hi _ 0 [] rfl HO.out rfl ?_)
    have b1 : Below w0.heap.size w0 (w0.alloc (.cells #[] 24)) := (Below.refl _ _).alloc (Nat.le_refl _) _
    have x1 : IsD (w0.alloc (.cells #[] 24)) w0.heap.size 0 0 tf ef := ⟨fun h => absurd h (by decide), fun i hi => absurd hi (by omega), fun i hi => absurd hi (by omega)⟩
    have b01 := b0.trans (b1.mono b0.size)
    have a1 := hA.below b01
    clear b1 b0 HO
    refine (sieve_any (some ⟨w0.heap.size, 0, none⟩) 0 0 w0.heap.size 0 tf ef hm2 _ (.inr rfl) x1).mono ?_
    rintro x w2 ⟨rfl, b2⟩
    have x2 := x1.below b2
    have a2 := a1.below b2
    have b02 := b01.trans (b2.mono b01.size)
    clear a1 x1 b01 b2
    go_wp2_with fail
    refine (refsieve_any none 0 0 b off tf ef hm2 _ (.inl rfl) a2).mono ?_
    rintro x w3 ⟨rfl, b3⟩
    have x3 := x2.below b3
    have a3 := a2.below b3
    have b03 := b02.trans (b3.mono b02.size)
    clear a2 x2 b02 b3
    generalize sB (vs 0 tf ef) = R1
    generalize sE (vs 0 tf ef) = R2
    go_wp2_with fail
    go_loopw [34, 8] (fun i j wr => ∃ k : Nat, k ≤ 0 ∧ i = .int .i64 k ∧ Below w3.heap.size w3 wr) (fun i _ _ => 0 - (intOf i).toNat)
    case atStart => exact ⟨0, Nat.zero_le _, rfl, Below.refl _ _⟩
    case round =>
      obtain ⟨k, hk, rfl, hb⟩ := hrel
      by_cases hlt : k < 0
      · exact absurd hlt (by omega)
      · go_wp2
        go_ret
        exact ⟨rfl, b03.trans (hb.mono b03.size)⟩
  · go_enter Try.func4, Try.ntmps4
    go_wp2_with fail
    refine (HS.out _).mono ?_
    rintro x w0 ⟨rfl, b0⟩
    have a0 := hA.below b0
    have q1 := news_of_isD (a0.below ((Below.refl _ _).alloc (Nat.le_refl _) (.cells #[] 24))) had
    have q2 := dcells_one tf ef m
    have q3 : 0 + m ≤ maxLen := by omega
    have q4 : (0 + m) * 16 ≤ 140737488355328 := by omega
    have q5 : w0.heap.size ≤ (w0.alloc (.cells #[] 24)).heap.size := by simp
    have q6 := dcells_length tf ef m
    have ho := World.ownsRow_made (e := 24) (size := 2) w0 #[] 0 (Nat.le_refl w0.heap.size) (by decide) rfl
    have Q1 := Lib.hid q1
    have Q2 := Lib.hid q2
    have Q5 := Lib.hid q5
    have Q6 := Lib.hid q6
    have HO := Lib.hid ho
    clear q1 q2 q5 q6 ho
    go_wp2_with (at_builtin; refine wpList_append_own _ rfl _ _ 31 rfl w0.heap.size 24 i0 _ 2 16 Try.underlying31 hi hz0 hz1 hz2 rfl (by decide) _ 0 [] rfl HO.out ad m cap (dcells tf ef m) rfl Q6.out Q1.out Q2.out q3 q4 Q5.out ?_; intro v' w1 hown1 hgrow hnil)
    obtain ⟨g, cap', hv, x1, b1⟩ := after_append ((Below.refl _ _).alloc (Nat.le_refl _) _) HO.out (by simp) hown1 hgrow hnil tf ef m (by omega) (by simp)
    subst hv
    have b01 := b0.trans (b1.mono b0.size)
    have a1 := a0.below b1
    clear b1 b0 HO hown1 hgrow hnil a0 Q1 Q2 Q5 Q6 q3 q4
    refine (sieve_any (some ⟨g, 0, none⟩) m cap' g 0 tf ef hm2 _ (.inr rfl) x1).mono ?_
    rintro x w2 ⟨rfl, b2⟩
    have x2 := x1.below b2
    have a2 := a1.below b2
    have b02 := b01.trans (b2.mono b01.size)
    clear a1 x1 b01 b2
    go_wp2_with fail
    refine (refsieve_any (some ad) m cap b off tf ef hm2 _ HA.out a2).mono ?_
    rintro x w3 ⟨rfl, b3⟩
    have x3 := x2.below b3
    have a3 := a2.below b3
    have b03 := b02.trans (b3.mono b02.size)
    clear a2 x2 b02 b3
    generalize sB (vs m tf ef) = R1
    generalize sE (vs m tf ef) = R2
    go_wp2_with fail
    go_loopw [34, 8] (fun i j wr => ∃ k : Nat, k ≤ m ∧ i = .int .i64 k ∧ Below w3.heap.size w3 wr) (fun i _ _ => m - (intOf i).toNat)
    case atStart => exact ⟨0, Nat.zero_le _, rfl, Below.refl _ _⟩
    case round =>
      obtain ⟨k, hk, rfl, hb⟩ := hrel
      by_cases hlt : k < m
      · obtain rfl : ad = ⟨b, off, none⟩ := had (by omega)
        have c0 := (x3.below hb).c0 k hlt
        have c1 := (x3.below hb).c1 k hlt
        rw [Nat.zero_add] at c0 c1
        have d0 := (a3.below hb).c0 k hlt
        have d1 := (a3.below hb).c1 k hlt
        have hkm : (k : Int) < (m : Int) := by omega
        generalize tf k = t at *
        generalize ef k = e at *
        go_wp2
        go_quiet (fail)
        go_wp2
        go_roundw
        case rel => exact ⟨k + 1, by omega, by go_num, hb.trans ⟨rfl, rfl, rfl, Nat.le_refl _, fun _ _ => rfl⟩⟩
        case measure => simp [intOf]; omega
      · have hk1 : ¬ (k : Int) < (m : Int) := by omega
        go_wp2
        go_ret
        exact ⟨rfl, b03.trans (hb.mono b03.size)⟩

set_option maxRecDepth 100000 in
theorem lifted (os : Os) (started : os.Started) (H : Type) (enc : TypeId × Value → H) :
    ReturnsInHanded {} Try.checked os 4 .any (Rows.logicSievesSpec.pre6 enc Try.prog Try.f4 Rows.logicSievesRow.domain false) (Rows.logicSievesSpec.post enc Try.prog Try.f4 false true false false) := by
  refine returnsInHanded_of_change_sized (C := Try.checked) own started (by kernel_rfl) Try.func4
    (ChangeSpec.witness6 (enc := enc) (C := Try.checked) false ⟨#[], #[.slice none 0 0], []⟩ 8 (by kernel_rfl) (by kernel_rfl) (by kernel_rfl) (by kernel_rfl)) ?_
  intro W base args ds gs before hval0 hW hcnd hsz0 _
  have hval : ∀ (j : Nat) t v, Try.f4.params[j]? = some t → args[j]? = some v → Value.okWide Try.prog W .any base t v := hval0
  have hW' := hW
  obtain ⟨p, q, hA0, hV, rfl, hfz, hnd⟩ := hW
  have hA : DataW.TrodAll enc Try.prog W 0 (fun _ => true) true Try.f4.params.toList args.toList ds p := hA0
  rw [Try.params4] at hA hval
  obtain ⟨v0, vs0, d0, ds0, p0, q0, hargs, rfl, rfl, h0, r0⟩ := trodAll_cons hA
  obtain ⟨rfl, rfl, rfl⟩ := trodAll_nil r0
  obtain rfl : args = #[v0] := by cases args; simp_all
  obtain ⟨rfl, rfl⟩ := trodVars_none hV
  have hsz : (DataW.weightsEach Try.prog [31] [d0]).all (· ≤ reachBytes) = true := hsz0
  have lt0 : ∀ x ∈ p0, x.block < W.heap.size := by obtain ⟨m, hm⟩ := h0; exact DataW.trod_lt m _ _ _ hm
  refine (walk (enc := enc) base v0 d0 p0 W (hval 0 31 v0 rfl rfl) h0 hsz).mono fun e W' ⟨he, bel⟩ => ?_
  subst he
  exact ⟨_, rfl, _, _, _, [], _, [], hW', trodAll_mk1 (shut_bool Try.underlying4 _), (trodAll_cons_mk (Below.trod laidOut (by kernel_rfl) (of_decide_eq_true (by kernel_rfl)) h0 bel lt0) trodAll_mk0), rfl, bel.frame _, fun h => by cases h⟩

theorem over : Rows.logicSievesRow.holds Try.pinned (OpenSpec.ofChange Rows.logicSievesSpec) :=
  OpenClaim.holds_of_wide 4 Try.f4 rfl rfl rfl rfl rfl rfl rfl ⟨rfl, rfl, rfl, rfl, rfl⟩ rfl rfl rfl rfl rfl (by kernel_rfl) Try.func4 (by kernel_rfl)
    (of_decide_eq_true (by kernel_rfl)) (by unfold Func.isWrapper; first | (rw [if_pos (by decide +kernel)]; kernel_rfl) | (rw [if_neg (by decide +kernel)]; exact ⟨rfl, rfl⟩))
    (fun os started H enc _ => lifted os started H enc)

theorem proved : Rows.LogicSievesSaid :=
  over
end Go.Proofs.Ytoghiebgffkhcab.logicSieves
