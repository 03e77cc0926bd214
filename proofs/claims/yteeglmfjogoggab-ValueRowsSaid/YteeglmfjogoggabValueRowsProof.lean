/-
  ValueRows answers true at any two lists of values: their order is the document's, and they stay as they were.
  Conditions: none but the row's own.
-/
import Derived.Test.YteeglmfjogoggabSpeak2
import Derived.Test.YteeglmfjogoggabVal9
import Derived.Test.YteeglmfjogoggabVal10
import Derived.Test.YteeglmfjogoggabRows
import Derived.WalkKit
import Derived.ProofKit
import Derived.OpenShut
import Derived.ShutString
import Derived.ChangeOld
import Derived.Below
import Derived.Carry
import Derived.SizedLaws
namespace Go.Proofs.Yteeglmfjogoggab.valueRows
open Go.ChangeShapes Go.WideShapes Go.ChangeAt Go.RowKit
open Go.Joins
set_option linter.unusedVariables false

theorem own : ownKnob Try.prog.godebug = none := by kernel_rfl
theorem laidOut : laidOutB Try.prog = true := by kernel_rfl

theorem bytesV : Try.prog.bytesOf 24 = 32 := by kernel_rfl

theorem rrows_any (a a' : Option Addr) (b off m cap b' off' n cap' : Nat) (kf nf : Nat → Int) (sf : Nat → ByteArray) (kf' nf' : Nat → Int) (sf' : Nat → ByteArray) (hm : m ≤ maxLen) (hn : n ≤ maxLen) (w : World)
    (ha : m = 0 ∨ a = some ⟨b, off, none⟩) (ha' : n = 0 ∨ a' = some ⟨b', off', none⟩) (hA : IsV w b off m kf nf sf) (hB : IsV w b' off' n kf' nf' sf') :
    Calls Try.prog 19 #[.slice a m cap, .slice a' n cap'] w fun e w' =>
      e = .returned (.int .i64 (firstNZ (fun i => VCmp (kf i) (nf i) (sf i) (kf' i) (nf' i) (sf' i)) (cmpI m n) 0 (min m n))) ∧ Below w.heap.size w w' := by
  by_cases hz : m = 0 ∨ n = 0
  · have e : min m n = 0 := by omega
    rw [e]
    exact rrows_zero a a' m cap n cap' hm hn hz w
  · obtain rfl : a = some ⟨b, off, none⟩ := by rcases ha with h | h; omega; exact h
    obtain rfl : a' = some ⟨b', off', none⟩ := by rcases ha' with h | h; omega; exact h
    exact rrows_some b off m cap b' off' n cap' kf nf sf kf' nf' sf' hm hn w hA hB

theorem samerow_any (a : Option Addr) (g b off m cap cap' : Nat) (kf nf : Nat → Int) (sf : Nat → ByteArray) (hm : m ≤ maxLen) (w : World)
    (ha : m = 0 ∨ a = some ⟨b, off, none⟩) (hX : IsV w g 0 m kf nf sf) (hA : IsV w b off m kf nf sf) :
    Calls Try.prog 20 #[.slice (some ⟨g, 0, none⟩) m cap, .slice a m cap'] w fun e w' => e = .returned (.bool true) ∧ Below w.heap.size w w' := by
  by_cases hz : m = 0
  · subst hz
    exact samerow_zero _ _ _ _ w
  · obtain rfl : a = some ⟨b, off, none⟩ := by rcases ha with h | h; omega; exact h
    exact samerow_some g 0 m cap b off cap' kf nf sf hm w hX hA

theorem reach_of {H : Type} {ts : List TypeId} {ds : List (DataW H)} (hz : (DataW.weightsEach Try.prog ts ds).all (· ≤ reachBytes) = true) {j m cap : Nat} {d : DataW H} (ht : ts[j]? = some 32) (hj : ds[j]? = some d) (hl : m ≤ cap)
    (hd : (d = .nil ∧ m = 0) ∨ ∃ es sp, d = .slice es sp ∧ es.length + sp.length = cap) : m * 32 ≤ 140737488351232 := by
  rcases hd with ⟨-, rfl⟩ | ⟨es, sp, rfl, e⟩
  · omega
  · have := sized_slice hz ht hj Try.underlying32
    rw [bytesV, e] at this
    unfold reachBytes at this
    omega

set_option maxHeartbeats 1000000 in
theorem walk {H : Type} {enc : TypeId × Value → H} (base : Nat) (v0 : Value) (d0 : DataW H) (p0 : List MemPlace) (v1 : Value) (d1 : DataW H) (p1 : List MemPlace) (W : World)
    (o0 : Value.okWide Try.prog W .any base 32 v0) (h0 : DataW.Trod enc Try.prog W 0 (fun _ => true) true 32 v0 d0 p0)
    (o1 : Value.okWide Try.prog W .any base 32 v1) (h1 : DataW.Trod enc Try.prog W 0 (fun _ => true) true 32 v1 d1 p1)
    (hz : (DataW.weightsEach Try.prog [32, 32] [d0, d1]).all (· ≤ reachBytes) = true) :
    Calls Try.prog 6 #[v0, v1] W fun e w' => e = .returned (.bool true) ∧ Below W.heap.size W w' := by
  obtain ⟨a, m, cap, b, off, kf, nf, sf, rfl, hl, hm, ha, hA, hd⟩ := open_vals o0 h0
  obtain ⟨a', n, cap', b', off', kf', nf', sf', rfl, hl', hn, ha', hB, hd'⟩ := open_vals o1 h1
  have r0 := reach_of hz (j := 0) rfl rfl hl hd
  have r1 := reach_of hz (j := 1) rfl rfl hl' hd'
  have hm2 : m ≤ maxLen := Nat.le_trans hl hm
  have hn2 : n ≤ maxLen := Nat.le_trans hl' hn
  clear hz hd hd' o0 o1 h0 h1 hm hn
  have HA := Lib.hid ha
  have HB := Lib.hid ha'
  clear ha ha'
  go_enter Try.func6, Try.ntmps6
  go_wp2_with fail
  refine (speaks2_any _).mono ?_
  rintro e w0 ⟨rfl, b0⟩
  have a0 := hA.below b0
  have c0 := hB.below b0
  go_wp2_with fail
  refine (copyrow_any a m cap b off kf nf sf r0 _ HA.out a0).mono ?_
  rintro e w1 ⟨g, gc, rfl, x1, b1⟩
  have a1 := a0.below b1
  have c1 := c0.below b1
  have b01 := b0.trans (b1.mono b0.size)
  clear a0 c0 b0 b1
  go_wp2_with fail
  refine (copyrow_any a' n cap' b' off' kf' nf' sf' r1 _ HB.out c1).mono ?_
  rintro e w2 ⟨g', gc', rfl, y2, b2⟩
  have x2 := x1.below b2
  have a2 := a1.below b2
  have c2 := c1.below b2
  have b02 := b01.trans (b2.mono b01.size)
  clear a1 c1 x1 b01 b2
  go_wp2_with fail
  refine (vrows_some g 0 m gc g' 0 n gc' kf nf sf kf' nf' sf' hm2 hn2 _ x2 y2).mono ?_
  rintro e w3 ⟨rfl, b3⟩
  have x3 := x2.below b3
  have y3 := y2.below b3
  have a3 := a2.below b3
  have c3 := c2.below b3
  have b03 := b02.trans (b3.mono b02.size)
  clear x2 y2 a2 c2 b02 b3
  go_wp2_with fail
  refine (rrows_any a a' b off m cap b' off' n cap' kf nf sf kf' nf' sf' hm2 hn2 _ HA.out HB.out a3 c3).mono ?_
  rintro e w4 ⟨rfl, b4⟩
  have x4 := x3.below b4
  have y4 := y3.below b4
  have a4 := a3.below b4
  have c4 := c3.below b4
  have b04 := b03.trans (b4.mono b03.size)
  clear x3 y3 a3 c3 b03 b4
  generalize firstNZ (fun i => VCmp (kf i) (nf i) (sf i) (kf' i) (nf' i) (sf' i)) (cmpI m n) 0 (min m n) = T
  go_wp2_with fail
  refine (samerow_any a g b off m gc cap kf nf sf hm2 _ HA.out x4 a4).mono ?_
  rintro e w5 ⟨rfl, b5⟩
  have y5 := y4.below b5
  have c5 := c4.below b5
  have b05 := b04.trans (b5.mono b04.size)
  clear x4 y4 a4 c4 b04 b5
  go_wp2_with fail
  refine (samerow_any a' g' b' off' n gc' cap' kf' nf' sf' hn2 _ HB.out y5 c5).mono ?_
  rintro e w6 ⟨rfl, b6⟩
  have b06 := b05.trans (b6.mono b05.size)
  clear y5 c5 b05 b6
  go_wp2
  go_ret
  exact ⟨rfl, b06⟩

set_option maxRecDepth 100000 in
theorem lifted (os : Os) (started : os.Started) (H : Type) (enc : TypeId × Value → H) :
    ReturnsInHanded {} Try.checked os 6 .any (Rows.valueRowsSpec.pre6 enc Try.prog Try.f6 Rows.valueRowsRow.domain false) (Rows.valueRowsSpec.post enc Try.prog Try.f6 false true false false) := by
  refine returnsInHanded_of_change_sized (C := Try.checked) own started (by kernel_rfl) Try.func6
    (ChangeSpec.witness6 (enc := enc) (C := Try.checked) false ⟨#[], #[.slice none 0 0, .slice none 0 0], []⟩ 8 (by kernel_rfl) (by kernel_rfl) (by kernel_rfl) (by kernel_rfl)) ?_
  intro W base args ds gs before hval0 hW hcnd hsz0 _
  have hval : ∀ (j : Nat) t v, Try.f6.params[j]? = some t → args[j]? = some v → Value.okWide Try.prog W .any base t v := hval0
  have hW' := hW
  obtain ⟨p, q, hA0, hV, rfl, hfz, hnd⟩ := hW
  have hA : DataW.TrodAll enc Try.prog W 0 (fun _ => true) true Try.f6.params.toList args.toList ds p := hA0
  rw [Try.params6] at hA hval
  obtain ⟨v0, vs0, d0, ds0, p0, q0, hargs, rfl, rfl, h0, r0⟩ := trodAll_cons hA
  obtain ⟨v1, vs1, d1, ds1, p1, q1, rfl, rfl, rfl, h1, r1⟩ := trodAll_cons r0
  obtain ⟨rfl, rfl, rfl⟩ := trodAll_nil r1
  obtain rfl : args = #[v0, v1] := by cases args; simp_all
  obtain ⟨rfl, rfl⟩ := trodVars_none hV
  have hsz : (DataW.weightsEach Try.prog [32, 32] [d0, d1]).all (· ≤ reachBytes) = true := hsz0
  have lt0 : ∀ x ∈ p0, x.block < W.heap.size := by obtain ⟨m, hm⟩ := h0; exact DataW.trod_lt m _ _ _ hm
  have lt1 : ∀ x ∈ p1, x.block < W.heap.size := by obtain ⟨m, hm⟩ := h1; exact DataW.trod_lt m _ _ _ hm
  refine (walk (enc := enc) base v0 d0 p0 v1 d1 p1 W (hval 0 32 v0 rfl rfl) h0 (hval 1 32 v1 rfl rfl) h1 hsz).mono fun e W' ⟨he, bel⟩ => ?_
  subst he
  exact ⟨_, rfl, _, _, _, [], _, [], hW', trodAll_mk1 (shut_bool Try.underlying4 _), (trodAll_cons_mk (Below.trod laidOut (by kernel_rfl) (of_decide_eq_true (by kernel_rfl)) h0 bel lt0) (trodAll_cons_mk (Below.trod laidOut (by kernel_rfl) (of_decide_eq_true (by kernel_rfl)) h1 bel lt1) trodAll_mk0)), rfl, bel.frame _, fun h => by cases h⟩

theorem over : Rows.valueRowsRow.holds Try.pinned (OpenSpec.ofChange Rows.valueRowsSpec) :=
  OpenClaim.holds_of_wide 6 Try.f6 rfl rfl rfl rfl rfl rfl rfl ⟨rfl, rfl, rfl, rfl, rfl⟩ rfl rfl rfl rfl rfl (by kernel_rfl) Try.func6 (by kernel_rfl)
    (of_decide_eq_true (by kernel_rfl)) (by unfold Func.isWrapper; first | (rw [if_pos (by decide +kernel)]; kernel_rfl) | (rw [if_neg (by decide +kernel)]; exact ⟨rfl, rfl⟩))
    (fun os started H enc _ => lifted os started H enc)

theorem proved : Rows.ValueRowsSaid :=
  over
end Go.Proofs.Yteeglmfjogoggab.valueRows
