/-
  LogicOrder answers true at any list of verdicts and any verdict more: a row gets through conditions in whatever order they stand, and what keeps it out keeps it out beside any others.
  Conditions: none but the row's own.
-/
import Derived.Test.YtoghiebgffkhcabLog8
import Derived.Test.YtoghiebgffkhcabRows
import Derived.WalkKit
import Derived.ProofKit
import Derived.OpenShut
import Derived.ShutString
import Derived.ChangeOld
import Derived.Below
import Derived.Carry
import Derived.SizedLaws
namespace Go.Proofs.Ytoghiebgffkhcab.logicOrder
open Go.ChangeShapes Go.WideShapes Go.ChangeAt Go.RowKit
open Go.Joins
set_option linter.unusedVariables false

theorem own : ownKnob Try.prog.godebug = none := by kernel_rfl
theorem laidOut : laidOutB Try.prog = true := by kernel_rfl


set_option maxHeartbeats 8000000 in
theorem walk {H : Type} {enc : TypeId × Value → H} (base : Nat) (v0 : Value) (d0 : DataW H) (p0 : List MemPlace) (v1 : Value) (d1 : DataW H) (p1 : List MemPlace) (W : World)
    (o0 : Value.okWide Try.prog W .any base 31 v0) (h0 : DataW.Trod enc Try.prog W 0 (fun _ => true) true 31 v0 d0 p0)
    (o1 : Value.okWide Try.prog W .any base 24 v1) (h1 : DataW.Trod enc Try.prog W 0 (fun _ => true) true 24 v1 d1 p1)
    (hz : (DataW.weightsEach Try.prog [31, 24] [d0, d1]).all (· ≤ reachBytes) = true) :
    Calls Try.prog 6 #[v0, v1] W fun e w' => e = .returned (.bool true) ∧ Below W.heap.size W w' := by
  obtain ⟨a, m, cap, b, off, tf, ef, rfl, hl, hm, ha, hA, hn, hd⟩ := open_vers o0 h0
  obtain ⟨t, e, rfl, -, -⟩ := open_ver o1 h1
  have r0 := reachD hz (j := 0) rfl rfl hl hd
  have hm2 : m ≤ maxLen := Nat.le_trans hl hm
  obtain ⟨i0, hi, hz0, hz1, hz2⟩ := info_parts infoD
  have hs := fun w => speaks4_any w
  have HS := Lib.hid hs
  clear hz hd o0 h0 o1 h1 hm hs ha
  unfold Dv
  have hm' : m ≤ 9223372036854775807 := by unfold maxLen at hm2; omega
  rcases hn with ⟨rfl, rfl, rfl⟩ | ⟨ad, rfl, had⟩
  · go_enter Try.func6, Try.ntmps6
    go_wp2_with fail
    refine (HS.out _).mono ?_
    rintro x w0 ⟨rfl, b0⟩
    have R0 := Lib.hid ((kp_one t e W).step b0)
    clear b0
    go_wp2_with fail
    have R0' := Lib.hid (R0.out.alloc (.cells #[] 24))
    go_loopw [19, 5] (fun i bk wr => ∃ k g cap' : Nat, k ≤ 0 ∧ i = .int .i64 k ∧ bk = .slice (some ⟨g, 0, none⟩) k cap' ∧ IsD wr g 0 k (rv tf k) (rv ef k) ∧ Rg W.heap.size W wr [Cl W.heap.size 0 t, Cl W.heap.size 1 e]) (fun i _ _ => 0 - (intOf i).toNat)
    case atStart => exact ⟨0, _, 0, Nat.zero_le _, rfl, rfl, isD_nil _ _ _ _, R0'.out⟩
    case round =>
      obtain ⟨k, g, cap', hk, rfl, rfl, xb, rr⟩ := hrel
      by_cases hlt : k < 0
      · exact absurd hlt (by omega)
      · obtain rfl : k = 0 := by omega
        have RR := Lib.hid rr
        clear rr R0 R0'
        have ho := World.ownsRow_made (e := 24) (size := 2) wr #[] 0 (Nat.le_refl wr.heap.size) (by decide) rfl
        have HO := Lib.hid ho
        have X1 := Lib.hid (isD_nil (wr.alloc (.cells #[] 24)) wr.heap.size tf ef)
        have R1 := Lib.hid (RR.out.alloc (.cells #[] 24))
        have XB := Lib.hid (xb.below ((Below.refl _ _).alloc (Nat.le_refl _) (.cells #[] 24)))
        clear ho xb
        go_wp2_with (at_builtin; refine wpList_append_own_none rfl _ _ 31 rfl wr.heap.size 24 i0 2 Try.underlying31 hi _ 0 [] rfl HO.out rfl ?_)
        generalize wr.alloc (.cells #[] 24) = w1 at *
        have g1 : ∃ g1, wr.heap.size = g1 := ⟨_, rfl⟩
        refine (sieve_any (some ⟨wr.heap.size, 0, none⟩) 0 0 wr.heap.size 0 tf ef hm2 _ (.inr rfl) X1.out).mono ?_
        rintro x w2 ⟨rfl, b2⟩
        have XB2 := Lib.hid (XB.out.below b2)
        have R2 := Lib.hid (R1.out.step b2)
        clear b2 XB R1
        go_wp2_with fail
        refine (sieve_any (some ⟨g, 0, none⟩) 0 cap' g 0 (rv tf 0) (rv ef 0) hm2 _ (.inr rfl) XB2.out).mono ?_
        rintro x w3 ⟨rfl, b3⟩
        rw [(rv_sieve 0 tf ef).1, (rv_sieve 0 tf ef).2]
        have R3 := Lib.hid (R2.out.step b3)
        clear b3 XB2 R2
        obtain ⟨⟨c0, f0⟩, c1, f1⟩ := R3.out.kp.two
        have ho := own_one w3 w3.heap.size (Nat.le_refl _) t e
        have HO := Lib.hid ho
        have b4 : Below w3.heap.size w3 (w3.alloc (.cells #[.int .i64 t, .int .i64 e] 24)) := (Below.refl _ _).alloc (Nat.le_refl _) _
        have B4 := Lib.hid b4
        clear ho
        have X4 := Lib.hid (isD_one HO.out tf ef)
        have R4 := Lib.hid (R3.out.step b4)
        clear b4 B4
        go_wp2_with (at_builtin; refine wpList_append_own_none rfl _ _ 31 rfl w3.heap.size 24 i0 2 Try.underlying31 hi _ 1 [.int .i64 t, .int .i64 e] rfl HO.out rfl ?_)
        refine (sieve_any (some ⟨w3.heap.size, 0, none⟩) 1 1 w3.heap.size 0 (cn t tf) (cn e ef) (by decide) _ (.inr rfl) X4.out).mono ?_
        rintro x w5 ⟨rfl, b5⟩
        rw [vs_cn 0 tf ef t e]
        have bl := (R4.out.step b5).bel
        obtain ⟨p1, p2⟩ := order_more (vs 0 tf ef) (t, e)
        generalize sB (vs 0 tf ef) = s1 at *
        generalize sE (vs 0 tf ef) = s2 at *
        generalize sB ((t, e) :: vs 0 tf ef) = s3 at *
        generalize sE ((t, e) :: vs 0 tf ef) = s4 at *
        clear b5 R4 R3 c0 f0 c1 f1
        cases s1
        · cases s3
          · by_cases z : s2 = 0
            · subst z
              obtain ⟨-, z4⟩ := p2 rfl rfl
              subst z4
              clear p1 p2
              go_wp2
              go_ret
              exact ⟨rfl, bl⟩
            · have z0 : (s2 == 0) = false := by simpa using z
              clear p1 p2 z
              go_wp2
              go_ret
              exact ⟨rfl, bl⟩
          · exact absurd (p1 rfl) (by decide)
        · clear p1 p2
          cases s3
          all_goals
            go_wp2
            go_ret
            exact ⟨rfl, bl⟩
  · go_enter Try.func6, Try.ntmps6
    go_wp2_with fail
    refine (HS.out _).mono ?_
    rintro x w0 ⟨rfl, b0⟩
    have R0 := Lib.hid ((kp_one t e W).step b0)
    clear b0
    go_wp2_with fail
    have R0' := Lib.hid (R0.out.alloc (.cells #[] 24))
    go_loopw [19, 5] (fun i bk wr => ∃ k g cap' : Nat, k ≤ m ∧ i = .int .i64 k ∧ bk = .slice (some ⟨g, 0, none⟩) k cap' ∧ IsD wr g 0 k (rv tf k) (rv ef k) ∧ Rg W.heap.size W wr [Cl W.heap.size 0 t, Cl W.heap.size 1 e]) (fun i _ _ => m - (intOf i).toNat)
    case atStart => exact ⟨0, _, 0, Nat.zero_le _, rfl, rfl, isD_nil _ _ _ _, R0'.out⟩
    case round =>
      obtain ⟨k, g, cap', hk, rfl, rfl, xb, rr⟩ := hrel
      by_cases hlt : k < m
      · obtain rfl : ad = ⟨b, off, none⟩ := had (by omega)
        have hA' := hA.below ((kp_one t e W).1.trans (Below.refl _ _))
        have hr := rr.bel
        have a0 := (hA.below hr).c0 k hlt
        have a1 := (hA.below hr).c1 k hlt
        have hkm : (k : Int) < (m : Int) := by omega
        obtain ⟨t', ht⟩ : ∃ t', tf k = t' := ⟨_, rfl⟩
        obtain ⟨e', he⟩ : ∃ e', ef k = e' := ⟨_, rfl⟩
        rw [ht] at a0
        rw [he] at a1
        have b1 : Below wr.heap.size wr ((wr.alloc (.cells #[.int .i64 t', .int .i64 e'] 24)).alloc (.cells #[.int .i64 t', .int .i64 e'] 24)) := two_below _ _ _
        have q1 := news_of_isD (ad := ⟨g, 0, none⟩) (xb.below b1) (fun _ => rfl)
        have q2 := dcells_one (rv tf k) (rv ef k) k
        have q3 : 1 + k ≤ maxLen := by unfold maxLen; omega
        have q4 : (1 + k) * 16 ≤ 140737488355328 := by omega
        have q5 := b1.size
        have q6 := dcells_length (rv tf k) (rv ef k) k
        have q7 : [.int .i64 t', .int .i64 e'] ++ dcells (rv tf k) (rv ef k) k = dcells (rv tf (k + 1)) (rv ef (k + 1)) (k + 1) := by rw [dcells_cn, ← ht, ← he, rv_step, rv_step]
        have ho := own_two wr (.cells #[.int .i64 t', .int .i64 e'] 24) t' e'
        have Q1 := Lib.hid q1
        have Q2 := Lib.hid q2
        have Q5 := Lib.hid q5
        have Q6 := Lib.hid q6
        have Q7 := Lib.hid q7
        have HO := Lib.hid ho
        have RR := Lib.hid rr
        have B1 := Lib.hid b1
        clear q1 q2 q5 q6 q7 ho rr b1 xb hr ht he hA'
        go_wp2_with (at_builtin; refine wpList_append_own _ rfl _ _ 31 rfl wr.heap.size 24 i0 _ 2 16 Try.underlying31 hi hz0 hz1 hz2 rfl (by decide) _ 1 [.int .i64 t', .int .i64 e'] rfl HO.out ⟨g, 0, none⟩ k cap' (dcells (rv tf k) (rv ef k) k) rfl Q6.out Q1.out Q2.out q3 q4 Q5.out ?_; intro v' w1 hown1 hgrow hnil)
        obtain ⟨g', cap2, hv, x1, b1⟩ := after_append B1.out HO.out (by simp) hown1 hgrow hnil (rv tf (k + 1)) (rv ef (k + 1)) (k + 1) (by omega) Q7.out
        subst hv
        have R1 := Lib.hid (RR.out.step b1)
        clear hown1 hgrow hnil b1 Q1 Q2 Q5 Q6 Q7 HO RR B1 q3 q4 a0 a1
        go_wp2_with fail
        go_roundw
        case rel => exact ⟨k + 1, g', cap2, by omega, by go_num, rfl, x1, R1.out⟩
        case measure => simp [intOf]; omega
      · obtain rfl : k = m := by omega
        have RR := Lib.hid rr
        have hA1 := hA.below rr.bel
        clear rr R0 R0'
        have b1 : Below wr.heap.size wr (wr.alloc (.cells #[] 24)) := (Below.refl _ _).alloc (Nat.le_refl _) _
        have q1 := news_of_isD (hA1.below b1) had
        have q2 := dcells_one tf ef k
        have q3 : 0 + k ≤ maxLen := by omega
        have q4 : (0 + k) * 16 ≤ 140737488355328 := by omega
        have q5 := b1.size
        have q6 := dcells_length tf ef k
        have ho := World.ownsRow_made (e := 24) (size := 2) wr #[] 0 (Nat.le_refl wr.heap.size) (by decide) rfl
        have Q1 := Lib.hid q1
        have Q2 := Lib.hid q2
        have Q5 := Lib.hid q5
        have Q6 := Lib.hid q6
        have HO := Lib.hid ho
        have B1 := Lib.hid b1
        clear q1 q2 q5 q6 ho b1
        go_wp2_with (at_builtin; refine wpList_append_own _ rfl _ _ 31 rfl wr.heap.size 24 i0 _ 2 16 Try.underlying31 hi hz0 hz1 hz2 rfl (by decide) _ 0 [] rfl HO.out ad k cap (dcells tf ef k) rfl Q6.out Q1.out Q2.out q3 q4 Q5.out ?_; intro v' w1 hown1 hgrow hnil)
        obtain ⟨g1, c1, hv, x1, b1⟩ := after_append B1.out HO.out (by simp) hown1 hgrow hnil tf ef k (by omega) (by simp)
        subst hv
        have XB := Lib.hid (xb.below b1)
        have A1 := Lib.hid (hA1.below b1)
        have R1 := Lib.hid (RR.out.step b1)
        clear hown1 hgrow hnil b1 Q1 Q2 Q5 Q6 HO B1 q3 q4 hA1 xb RR
        refine (sieve_any (some ⟨g1, 0, none⟩) k c1 g1 0 tf ef hm2 _ (.inr rfl) x1).mono ?_
        rintro x w2 ⟨rfl, b2⟩
        have XB2 := Lib.hid (XB.out.below b2)
        have R2 := Lib.hid (R1.out.step b2)
        have A2 := Lib.hid (A1.out.below b2)
        clear A1
        clear b2 XB R1
        go_wp2_with fail
        refine (sieve_any (some ⟨g, 0, none⟩) k cap' g 0 (rv tf k) (rv ef k) hm2 _ (.inr rfl) XB2.out).mono ?_
        rintro x w3 ⟨rfl, b3⟩
        rw [(rv_sieve k tf ef).1, (rv_sieve k tf ef).2]
        have R3 := Lib.hid (R2.out.step b3)
        have A3 := Lib.hid (A2.out.below b3)
        clear A2
        clear b3 XB2 R2
        obtain ⟨⟨c0, f0⟩, c1, f1⟩ := R3.out.kp.two
        have ho := own_one w3 w3.heap.size (Nat.le_refl _) t e
        have HO := Lib.hid ho
        have b4 : Below w3.heap.size w3 (w3.alloc (.cells #[.int .i64 t, .int .i64 e] 24)) := (Below.refl _ _).alloc (Nat.le_refl _) _
        have B4 := Lib.hid b4
        clear ho
        have q1 := news_of_isD (A3.out.below b4) had
        have q2 := dcells_one tf ef k
        have q3 : 1 + k ≤ maxLen := by unfold maxLen; omega
        have q4 : (1 + k) * 16 ≤ 140737488355328 := by omega
        have q5 := b4.size
        have q6 := dcells_length tf ef k
        have Q1 := Lib.hid q1
        have Q2 := Lib.hid q2
        have Q5 := Lib.hid q5
        have Q6 := Lib.hid q6
        clear q1 q2 q5 q6 b4
        go_wp2_with (at_builtin; refine wpList_append_own _ rfl _ _ 31 rfl w3.heap.size 24 i0 _ 2 16 Try.underlying31 hi hz0 hz1 hz2 rfl (by decide) _ 1 [.int .i64 t, .int .i64 e] rfl HO.out ad k cap (dcells tf ef k) rfl Q6.out Q1.out Q2.out q3 q4 Q5.out ?_; intro v' w4 hown1 hgrow hnil)
        obtain ⟨g4, c4, hv, x4, b4⟩ := after_append B4.out HO.out (by simp) hown1 hgrow hnil (cn t tf) (cn e ef) (k + 1) (by omega) (dcells_cn tf ef t e k)
        subst hv
        have R4 := Lib.hid (R3.out.step b4)
        clear hown1 hgrow hnil b4 Q1 Q2 Q5 Q6 HO B4 q4 A3
        refine (sieve_any (some ⟨g4, 0, none⟩) (k + 1) c4 g4 0 (cn t tf) (cn e ef) (by omega) _ (.inr rfl) x4).mono ?_
        rintro x w5 ⟨rfl, b5⟩
        rw [vs_cn k tf ef t e]
        have bl := (R4.out.step b5).bel
        obtain ⟨p1, p2⟩ := order_more (vs k tf ef) (t, e)
        generalize sB (vs k tf ef) = s1 at *
        generalize sE (vs k tf ef) = s2 at *
        generalize sB ((t, e) :: vs k tf ef) = s3 at *
        generalize sE ((t, e) :: vs k tf ef) = s4 at *
        clear b5 R4 R3 c0 f0 c1 f1
        cases s1
        · cases s3
          · by_cases z : s2 = 0
            · subst z
              obtain ⟨-, z4⟩ := p2 rfl rfl
              subst z4
              clear p1 p2
              go_wp2
              go_ret
              exact ⟨rfl, bl⟩
            · have z0 : (s2 == 0) = false := by simpa using z
              clear p1 p2 z
              go_wp2
              go_ret
              exact ⟨rfl, bl⟩
          · exact absurd (p1 rfl) (by decide)
        · clear p1 p2
          cases s3
          all_goals
            go_wp2
            go_ret
            exact ⟨rfl, bl⟩

set_option maxRecDepth 100000 in
theorem lifted (os : Os) (started : os.Started) (H : Type) (enc : TypeId × Value → H) :
    ReturnsInHanded {} Try.checked os 6 .any (Rows.logicOrderSpec.pre6 enc Try.prog Try.f6 Rows.logicOrderRow.domain false) (Rows.logicOrderSpec.post enc Try.prog Try.f6 false true false false) := by
  refine returnsInHanded_of_change_sized (C := Try.checked) own started (by kernel_rfl) Try.func6
    (ChangeSpec.witness6 (enc := enc) (C := Try.checked) false ⟨#[], #[.slice none 0 0, .agg #[.int .i64 0, .int .i64 0]], []⟩ 8 (by kernel_rfl) (by kernel_rfl) (by kernel_rfl) (by kernel_rfl)) ?_
  intro W base args ds gs before hval0 hW hcnd hsz0 _
  have hval : ∀ (j : Nat) t v, Try.f6.params[j]? = some t → args[j]? = some v → Value.okWide Try.prog W .any base t v := hval0
  have hW' := hW
  obtain ⟨p, q, hA0, hV, rfl, hfz, hnd⟩ := hW
  have hA : DataW.TrodAll enc Try.prog W 0 (fun _ => true) true Try.f6.params.toList args.toList ds p := hA0
  rw [Try.params6] at hA hval
  obtain ⟨v0, vs0, d0, ds0, p0, q0, hargs, rfl, rfl, h0, r0⟩ := trodAll_cons hA
  obtain ⟨v1, vs1, d1, ds1, p1, q1, rfl, rfl, rfl, h1, r1⟩ := trodAll_cons r0
  obtain ⟨rfl, rfl, rfl⟩ := trodAll_nil r1
  obtain rfl : args = #[v0, v1] := by cases args; simp_all
  obtain ⟨rfl, rfl⟩ := trodVars_none hV
  have hsz : (DataW.weightsEach Try.prog [31, 24] [d0, d1]).all (· ≤ reachBytes) = true := hsz0
  have lt0 : ∀ x ∈ p0, x.block < W.heap.size := by obtain ⟨m, hm⟩ := h0; exact DataW.trod_lt m _ _ _ hm
  have lt1 : ∀ x ∈ p1, x.block < W.heap.size := by obtain ⟨m, hm⟩ := h1; exact DataW.trod_lt m _ _ _ hm
  refine (walk (enc := enc) base v0 d0 p0 v1 d1 p1 W (hval 0 31 v0 rfl rfl) h0 (hval 1 24 v1 rfl rfl) h1 hsz).mono fun e W' ⟨he, bel⟩ => ?_
  subst he
  exact ⟨_, rfl, _, _, _, [], _, [], hW', trodAll_mk1 (shut_bool Try.underlying4 _), (trodAll_cons_mk (Below.trod laidOut (by kernel_rfl) (of_decide_eq_true (by kernel_rfl)) h0 bel lt0) (trodAll_cons_mk (Below.trod laidOut (by kernel_rfl) (of_decide_eq_true (by kernel_rfl)) h1 bel lt1) trodAll_mk0)), rfl, bel.frame _, fun h => by cases h⟩

theorem over : Rows.logicOrderRow.holds Try.pinned (OpenSpec.ofChange Rows.logicOrderSpec) :=
  OpenClaim.holds_of_wide 6 Try.f6 rfl rfl rfl rfl rfl rfl rfl ⟨rfl, rfl, rfl, rfl, rfl⟩ rfl rfl rfl rfl rfl (by kernel_rfl) Try.func6 (by kernel_rfl)
    (of_decide_eq_true (by kernel_rfl)) (by unfold Func.isWrapper; first | (rw [if_pos (by decide +kernel)]; kernel_rfl) | (rw [if_neg (by decide +kernel)]; exact ⟨rfl, rfl⟩))
    (fun os started H enc _ => lifted os started H enc)

theorem proved : Rows.LogicOrderSaid :=
  over
end Go.Proofs.Ytoghiebgffkhcab.logicOrder
