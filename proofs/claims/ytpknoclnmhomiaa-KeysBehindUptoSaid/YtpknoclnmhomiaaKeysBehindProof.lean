/-
  KeysBehind answers true at any rows of bytes of a bulk of at most 1048576: what comes behind all that begin with some bytes is the least that does.
  Conditions: none but the row's own.
-/
import Derived.Test.YtpknoclnmhomiaaKl1
import Derived.Test.YtpknoclnmhomiaaRows
import Derived.WalkKit
import Derived.ProofKit
import Derived.OpenShut
import Derived.ShutString
import Derived.ChangeOld
import Derived.Below
import Derived.Carry
import Derived.JoinedCond
namespace Go.Proofs.Ytpknoclnmhomiaa.keysBehind
open Go.ChangeShapes Go.WideShapes Go.ChangeAt Go.RowKit
open Go.Joins
set_option linter.unusedVariables false

theorem own : ownKnob Try.prog.godebug = none := by kernel_rfl
theorem laidOut : laidOutB Try.prog = true := by kernel_rfl


set_option maxHeartbeats 4000000 in
theorem walk {H : Type} {enc : TypeId × Value → H} (base : Nat) (v0 : Value) (d0 : DataW H) (p0 : List MemPlace) (v1 : Value) (d1 : DataW H) (p1 : List MemPlace) (v2 : Value) (d2 : DataW H) (p2 : List MemPlace) (W : World)
    (o0 : Value.okWide Try.prog W .any base 25 v0) (h0 : DataW.Trod enc Try.prog W 0 (fun _ => true) true 25 v0 d0 p0)
    (o1 : Value.okWide Try.prog W .any base 25 v1) (h1 : DataW.Trod enc Try.prog W 0 (fun _ => true) true 25 v1 d1 p1)
    (o2 : Value.okWide Try.prog W .any base 25 v2) (h2 : DataW.Trod enc Try.prog W 0 (fun _ => true) true 25 v2 d2 p2)
    (hk : Rows.uptoSmall H [d0, d1, d2] = true) :
    Calls Try.prog 8 #[v0, v1, v2] W fun e w' => e = .returned (.bool true) ∧ Below W.heap.size W w' := by
  obtain ⟨a, l, cap, b, off, rfl, hl, hm, ha, hA, hN⟩ := open_bytes o0 h0 (up_arg hk (by simp))
  obtain ⟨a', l', cap', b', off', rfl, hl', hm', ha', hA', hN'⟩ := open_bytes o1 h1 (up_arg hk (by simp))
  obtain ⟨a'', l'', cap'', b'', off'', rfl, hl'', hm'', ha'', hA'', hN''⟩ := open_bytes o2 h2 (up_arg hk (by simp))
  have e1 : l.length ≤ 1048576 := by omega
  have e2 : l'.length ≤ 1048576 := by omega
  have e3 : l''.length ≤ 1048576 := by omega
  have HS := Lib.hid speaks5_any
  have HA := Lib.hid ha
  have HA' := Lib.hid ha'
  have HA'' := Lib.hid ha''
  have HN := Lib.hid hN
  have HN' := Lib.hid hN'
  have HLT := Lib.hid hA.lt
  have HB8 := Lib.hid (behB_lt hA.lt)
  have hbl := behB_le l
  clear o0 h0 o1 h1 o2 h2 hk ha hN ha' hN' ha'' hN'' hl hm hl' hm' hl'' hm''
  have HX1 := Lib.hid (fun h => beh1 (l := l) h l')
  have HX2 := Lib.hid (fun h => beh2 (l := l) h l'' hA''.lt)
  generalize hS : stripN l l.length = S at *
  generalize hBB : behB l = BB at *
  obtain ⟨D, hD⟩ : ∃ D, decide (S ≠ 0) = D := ⟨_, rfl⟩
  have HD := Lib.hid hD
  go_enter Try.func8, Try.ntmps8
  go_wp2_with fail
  refine (HS.out _).mono ?_
  rintro x w0 ⟨rfl, b0⟩
  have A0 := Lib.hid (hA.below b0)
  have M0 := Lib.hid (bytes_made w0)
  have hsz0 : w0.heap.size ≤ (w0.alloc (.cells #[] 5)).heap.size := by simp
  go_wp2_with (first | (at_builtin; refine wp_copyA rfl _ _ rfl w0.heap.size _ [] rfl M0.out a _ l rfl b off HN.out (A0.out.below ((Below.refl _ _).alloc (Nat.le_refl _) _)) (by simp; omega) hsz0 ?_; intro v1 w1 hown1 hgrow1; have B1 := Lib.hid (((Below.refl w0.heap.size w0).alloc (Nat.le_refl _) (.cells #[] 5)).grown hgrow1 hsz0 (fun k hk => (M0.out.lt k hk).1)); have O1 := Lib.hid hown1; clear hgrow1 hown1) | fail)
  obtain ⟨g1, c1, q1, i1, -⟩ := O1.out.isB HLT.out
  have q1' : v1 = .slice (some ⟨g1, 0, none⟩) l.length c1 := q1
  subst q1'
  have W1 := Lib.hid (stepB b0 B1.out)
  have hcc1 : l.length ≤ c1 := (OwB.caps (l := l) O1.out).1
  have hb1 := beh_any (some ⟨g1, 0, none⟩) g1 0 c1 l hcc1 (by omega) w1 (.inr rfl) i1
  rw [hS, hBB, hD] at hb1
  have HB1 := Lib.hid hb1
  clear q1 i1 M0 A0 HS O1 B1 b0 hb1 hD
  refine HB1.out.mono ?_
  rintro x w2 ⟨v2, rfl, o2, b2⟩
  have W2 := Lib.hid (stepB W1.out b2)
  have O2 := Lib.hid (o2 : OutB w2 _ v2 _)
  have hb2 := refBehind_any a b off cap l (by omega) w2 HA.out (hA.below W2.out)
  rw [hS, hBB, HD.out] at hb2
  have HB2 := Lib.hid hb2
  have HSS := Lib.hid hS
  have HBB := Lib.hid hBB
  clear b2 o2 HB1 hb2 hS hBB
  go_wp2_with fail
  refine HB2.out.mono ?_
  rintro x w3 ⟨v3, rfl, o3, b3⟩
  have W3 := Lib.hid (stepB W2.out b3)
  have O23 := Lib.hid (O2.out.below b3)
  have s2 := O23.out.str
  have s3 := str_own o3
  clear b3 o3 HB2
  by_cases hz : S = 0
  · have hd : D = false := by rw [← HD.out]; simp [hz]
    subst hd
    clear hz
    go_wp2
    go_ret
    exact ⟨rfl, W3.out⟩
  · have hd : D = true := by rw [← HD.out]; simp [hz]
    subst hd
    have x1 := HX1.out hz
    have X2 := Lib.hid (HX2.out hz)
    have A3 := Lib.hid (hA.below W3.out)
    have A3' := Lib.hid (hA'.below W3.out)
    have A3'' := Lib.hid (hA''.below W3.out)
    have M3 := Lib.hid (bytes_made w3)
    have hsz3 : w3.heap.size ≤ (w3.alloc (.cells #[] 5)).heap.size := by simp
    have E3 := Lib.hid (show En w3 (w3.alloc (.cells #[] 5)) w3.heap.size (.slice (some ⟨w3.heap.size, 0, none⟩) 0 0) [] from ⟨M3.out, (Below.refl _ _).alloc (Nat.le_refl _) _, hsz3⟩)
    have X1 := Lib.hid x1
    clear hz x1 HX1 HX2 M3 hsz3
    go_wp2_with (first
      | (at_builtin; refine wp_copyA rfl _ _ rfl w3.heap.size _ l rfl E5.out.own a' _ l' rfl b' off' HN'.out (A3'.out.below E5.out.bel) (by omega) E5.out.sz ?_; intro v6 w6 hown6 hgrow6; have E6 := Lib.hid (E5.out.push hown6 hgrow6); clear hgrow6 hown6)
      | (at_builtin; refine wp_copyA rfl _ _ rfl w3.heap.size _ [] rfl E3.out.own a _ l rfl b off HN.out (A3.out.below E3.out.bel) (by simp; omega) E3.out.sz ?_; intro v5 w5 hown5 hgrow5; have E5 := Lib.hid (show En w3 w5 w3.heap.size v5 l from E3.out.push hown5 hgrow5); clear hgrow5 hown5)
      | fail)
    obtain ⟨g6, c6, q6, i6, -⟩ := E6.out.own.isB (fun x hx => by rcases List.mem_append.1 hx with h | h; exact HLT.out x h; exact hA'.lt x h)
    obtain ⟨a2, g2, c2, rfl, f2, i2, -, -⟩ := (O23.out.below E6.out.bel).form HB8.out
    subst q6
    have ho1 := refOrder_any (some ⟨g6, 0, none⟩) a2 g6 0 c6 g2 0 c2 (l ++ l') BB (by rw [List.length_append]; unfold maxLen; omega) (by unfold maxLen; omega) w6 (.inr rfl) f2 i6 i2
    rw [X1.out] at ho1
    have HO1 := Lib.hid ho1
    have HI2 := Lib.hid i2
    have HF2 := Lib.hid f2
    clear ho1 i2 f2 i6 s2 s3
    go_wp2_with fail
    refine HO1.out.mono ?_
    rintro x w7 ⟨rfl, b7⟩
    have W7 := Lib.hid (stepB W3.out (stepB E6.out.bel b7))
    have A7 := Lib.hid (hA.below W7.out)
    have A7'' := Lib.hid (hA''.below W7.out)
    have I7 := Lib.hid (HI2.out.below b7)
    have hb1 := refBegins_any a'' a b'' off'' cap'' b off cap l'' l (by unfold maxLen; omega) (by unfold maxLen; omega) w7 HA''.out HA.out A7''.out A7.out
    have hb2 := fun w' (h : Below w7.heap.size w7 w') => refOrder_any a'' a b'' off'' cap'' b off cap l'' l (by unfold maxLen; omega) (by unfold maxLen; omega) w' HA''.out HA.out (A7''.out.below h) (A7.out.below h)
    have hb3 := fun w' (h : Below w7.heap.size w7 w') => refOrder_any a'' a2 b'' off'' cap'' g2 0 c2 l'' BB (by unfold maxLen; omega) (by unfold maxLen; omega) w' HA''.out HF2.out (A7''.out.below h) (I7.out.below h)
    have hv := ordB_vals l'' l
    have x2 := X2.out
    generalize ordB l'' l = y at *
    generalize ordB l'' BB = z at *
    have HB3 := Lib.hid hb3
    have HB2 := Lib.hid hb2
    clear hb2 hb3 b7
    by_cases hp : l''.take l.length = l
    · rw [show decide (l''.take l.length = l) = true from decide_eq_true hp] at hb1
      have HB1 := Lib.hid hb1
      clear hb1 hp x2 hv
      go_wp2_with (first | (go_at_call 20; refine HB1.out.mono ?_; rintro x w8 ⟨rfl, b8⟩; have W8 := Lib.hid (stepB W7.out b8); clear b8))
      go_ret
      exact ⟨rfl, W8.out⟩
    · rw [show decide (l''.take l.length = l) = false from decide_eq_false hp] at hb1
      have HB1 := Lib.hid hb1
      have x3 := x2 hp
      clear hb1 hp x2
      rcases hv with rfl | hv
      · go_wp2_with (first | (go_at_call 20; refine HB1.out.mono ?_; rintro x w8 ⟨rfl, b8⟩; have B8 := Lib.hid b8; have W8 := Lib.hid (stepB W7.out b8); clear b8) | (go_at_call 18; refine (HB2.out _ B8.out).mono ?_; rintro x w9 ⟨rfl, b9⟩; have W9 := Lib.hid (stepB W8.out b9); clear b9))
        go_ret
        exact ⟨rfl, W9.out⟩
      · have y1 : decide (y < 0) = false := by simp; omega
        have y2 : 0 ≤ z := x3 (by omega)
        have y3 : decide (0 ≤ z) = true := by simpa using y2
        clear hv x3
        go_wp2_with (first | (go_at_call 20; refine HB1.out.mono ?_; rintro x w8 ⟨rfl, b8⟩; have B8 := Lib.hid b8; have W8 := Lib.hid (stepB W7.out b8); clear b8) | (go_at_call 18; refine (HB3.out _ B9.out).mono ?_; rintro x w10 ⟨rfl, b10⟩; have W10 := Lib.hid (stepB W9.out b10); clear b10) | (go_at_call 18; refine (HB2.out _ B8.out).mono ?_; rintro x w9 ⟨rfl, b9⟩; have B9 := Lib.hid (stepB B8.out b9); have W9 := Lib.hid (stepB W8.out b9); clear b9))
        go_ret
        exact ⟨rfl, W10.out⟩

set_option maxRecDepth 100000 in
theorem lifted (os : Os) (started : os.Started) (H : Type) (enc : TypeId × Value → H) (F : Stop.Interp) :
    ReturnsInHanded {} Try.checked os 8 .any ((Rows.OpenSpec.upto Rows.keysBehindSpec).pre6 enc Try.prog Try.f8 Rows.keysBehindUptoRow.domain false) (((Rows.OpenSpec.upto Rows.keysBehindSpec).at F).post enc Try.prog Try.f8 false true false false) := by
  refine returnsInHanded_of_cond (C := Try.checked) (s := Rows.OpenSpec.upto Rows.keysBehindSpec) (k := Rows.uptoSmall) rfl own started (by kernel_rfl) Try.func8
    (OpenSpec.witness (enc := enc) (C := Try.checked) (s := Rows.OpenSpec.upto Rows.keysBehindSpec) (k := Rows.uptoSmall) rfl false ⟨#[], #[.slice none 0 0, .slice none 0 0, .slice none 0 0], []⟩ 8 (by kernel_rfl) (by kernel_rfl) (by kernel_rfl)
      (x := ([.nil, .nil, .nil], [], [])) (by kernel_rfl) rfl (by kernel_rfl)) ?_
  intro W base args ds gs before hval0 hW _ hk0 _
  have hval : ∀ (j : Nat) t v, Try.f8.params[j]? = some t → args[j]? = some v → Value.okWide Try.prog W .any base t v := hval0
  have hW' := hW
  obtain ⟨p, q, hA0, hV, rfl, hfz, hnd⟩ := hW
  have hA : DataW.TrodAll enc Try.prog W 0 (fun _ => true) true Try.f8.params.toList args.toList ds p := hA0
  rw [Try.params8] at hA hval
  obtain ⟨v0, vs0, d0, ds0, p0, q0, hargs, rfl, rfl, h0, r0⟩ := trodAll_cons hA
  obtain ⟨v1, vs1, d1, ds1, p1, q1, rfl, rfl, rfl, h1, r1⟩ := trodAll_cons r0
  obtain ⟨v2, vs2, d2, ds2, p2, q2, rfl, rfl, rfl, h2, r2⟩ := trodAll_cons r1
  obtain ⟨rfl, rfl, rfl⟩ := trodAll_nil r2
  obtain rfl : args = #[v0, v1, v2] := by cases args; simp_all
  obtain ⟨rfl, rfl⟩ := trodVars_none hV
  have hk : Rows.uptoSmall H [d0, d1, d2] = true := hk0
  have lt0 : ∀ x ∈ p0, x.block < W.heap.size := by obtain ⟨m, hm⟩ := h0; exact DataW.trod_lt m _ _ _ hm
  have lt1 : ∀ x ∈ p1, x.block < W.heap.size := by obtain ⟨m, hm⟩ := h1; exact DataW.trod_lt m _ _ _ hm
  have lt2 : ∀ x ∈ p2, x.block < W.heap.size := by obtain ⟨m, hm⟩ := h2; exact DataW.trod_lt m _ _ _ hm
  refine (walk (enc := enc) base v0 d0 p0 v1 d1 p1 v2 d2 p2 W (hval 0 25 v0 rfl rfl) h0 (hval 1 25 v1 rfl rfl) h1 (hval 2 25 v2 rfl rfl) h2 hk).mono fun e W' ⟨he, bel⟩ => ?_
  subst he
  exact ⟨_, rfl, _, _, _, [], _, [], hW', trodAll_mk1 (shut_bool Try.underlying4 _), (trodAll_cons_mk (Below.trod laidOut (by kernel_rfl) (of_decide_eq_true (by kernel_rfl)) h0 bel lt0) (trodAll_cons_mk (Below.trod laidOut (by kernel_rfl) (of_decide_eq_true (by kernel_rfl)) h1 bel lt1) (trodAll_cons_mk (Below.trod laidOut (by kernel_rfl) (of_decide_eq_true (by kernel_rfl)) h2 bel lt2) trodAll_mk0))), rfl, bel.frame _, fun h => by cases h⟩

theorem over : Rows.keysBehindUptoRow.holds Try.pinned (Rows.OpenSpec.upto Rows.keysBehindSpec) :=
  OpenClaim.holds_of_cond 8 Try.f8 rfl rfl rfl rfl rfl rfl rfl ⟨rfl, rfl, rfl, rfl, rfl⟩ rfl rfl rfl rfl rfl (by kernel_rfl) Try.func8 (by kernel_rfl)
    (of_decide_eq_true (by kernel_rfl)) (by unfold Func.isWrapper; first | (rw [if_pos (by decide +kernel)]; kernel_rfl) | (rw [if_neg (by decide +kernel)]; exact ⟨rfl, rfl⟩))
    (fun os started H enc _ F => lifted os started H enc F)

theorem proved : Rows.KeysBehindUptoSaid :=
  over
end Go.Proofs.Ytpknoclnmhomiaa.keysBehind
