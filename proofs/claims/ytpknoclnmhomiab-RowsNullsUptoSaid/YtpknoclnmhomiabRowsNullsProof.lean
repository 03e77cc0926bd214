/-
  RowsNulls answers true at any columns of a bulk of at most 1048576: a row of Nulls alone has its bits and no other byte, and fits just if no column is Required.
  Conditions: none but the row's own.
-/
import Derived.Test.YtpknoclnmhomiabRl1
import Derived.Test.YtpknoclnmhomiabRows
import Derived.WalkKit
import Derived.ProofKit
import Derived.OpenShut
import Derived.ShutString
import Derived.ChangeOld
import Derived.Below
import Derived.Carry
import Derived.JoinedCond
namespace Go.Proofs.Ytpknoclnmhomiab.rowsNulls
open Go.ChangeShapes Go.WideShapes Go.ChangeAt Go.RowKit
open Go.Joins
set_option linter.unusedVariables false

theorem own : ownKnob Try.prog.godebug = none := by kernel_rfl
theorem laidOut : laidOutB Try.prog = true := by kernel_rfl

theorem isV_made {w : World} {base g m : Nat} (h : w.ownsRow base 43 3 (.slice (some ⟨g, 0, none⟩) m m) m (madeCells (Value.agg #[.int .i64 0, .int .i64 0, .string Em]).cells (m * 3)).toList) : IsV w g 0 m (fun _ => 0) (fun _ => 0) (fun _ => Em) := by
  have hg : g < w.heap.size := (h.lt g rfl).2
  have hz : ∀ i v, i < m * 3 → (#[Value.int .i64 0, .int .i64 0, .string Em] : Array Value)[i % 3]! = v → w.cell? ⟨g, i, none⟩ = some v := by
    intro i v hi hv
    rw [h.cellAt i hi]
    have e : (Value.agg #[.int .i64 0, .int .i64 0, .string Em]).cells = #[.int .i64 0, .int .i64 0, .string Em] := by simp [Value.cells]
    rw [e, Array.getElem?_toList]
    unfold madeCells
    rw [Array.getElem?_map, Array.getElem?_range, if_pos hi]
    exact congrArg some hv
  refine ⟨fun _ => hg, ?_, ?_, ?_⟩
  all_goals
    intro i hi
    rw [Nat.zero_add]
  · exact hz _ _ (by omega) (by rw [show i * 3 % 3 = 0 by omega]; rfl)
  · exact hz _ _ (by omega) (by rw [show (i * 3 + 1) % 3 = 1 by omega]; rfl)
  · exact hz _ _ (by omega) (by rw [show (i * 3 + 2) % 3 = 2 by omega]; rfl)
def FR (qf : Nat → Bool) : Nat → Bool
  | 0 => true
  | k + 1 => FR qf k && !qf k
theorem fr_all {qf : Nat → Bool} : ∀ m, FR qf m = true → ∀ i, i < m → qf i = false
  | 0, _, i, hi => absurd hi (by omega)
  | m + 1, h, i, hi => by
    unfold FR at h
    obtain ⟨h1, h2⟩ := Bool.and_eq_true_iff.1 h
    by_cases e : i = m
    · rw [e]; simpa using h2
    · exact fr_all m h1 i (by omega)
theorem fr_not {qf : Nat → Bool} : ∀ m, FR qf m = false → ∃ i, i < m ∧ qf i = true
  | 0, h => by cases h
  | m + 1, h => by
    unfold FR at h
    by_cases e : qf m = true
    · exact ⟨m, by omega, e⟩
    · have e2 : qf m = false := by simpa using e
      rw [e2] at h
      obtain ⟨i, h1, h2⟩ := fr_not m (by simpa using h)
      exact ⟨i, by omega, h2⟩
theorem nul_step (tf : Nat → Int) (qf : Nat → Bool) (i : Nat) : fitStep tf qf (fun _ => 0) (fun _ => 0) (fun _ => Em) i = if qf i = true then 60 else 0 := by
  unfold fitStep
  rw [if_pos (show VCheck 0 0 Em = 0 by decide +kernel), if_pos rfl]
theorem nz_zero (c : Nat → Int) : ∀ r i, (∀ k, i ≤ k → k < i + r → c k = 0) → firstNZ c 0 i r = 0
  | 0, _, _ => rfl
  | r + 1, i, h => by
    unfold firstNZ
    rw [if_pos (h i (Nat.le_refl _) (by omega))]
    exact nz_zero c r (i + 1) (fun k h1 h2 => h k (by omega) (by omega))
theorem nz_some (c : Nat → Int) (v : Int) (hv : v ≠ 0) (hc : ∀ k, c k = 0 ∨ c k = v) : ∀ r i, (∃ k, i ≤ k ∧ k < i + r ∧ c k = v) → firstNZ c 0 i r = v
  | 0, _, ⟨k, h1, h2, _⟩ => absurd h2 (by omega)
  | r + 1, i, ⟨k, h1, h2, h3⟩ => by
    unfold firstNZ
    rcases hc i with h | h
    · rw [if_pos h]
      refine nz_some c v hv hc r (i + 1) ⟨k, ?_, by omega, h3⟩
      by_cases e : k = i
      · rw [e, h] at h3; exact absurd h3.symm hv
      · omega
    · rw [if_neg (by rw [h]; exact hv), h]
theorem nul_fit (m : Nat) (tf : Nat → Int) (qf : Nat → Bool) : fitV m m tf qf (fun _ => 0) (fun _ => 0) (fun _ => Em) = if FR qf m = true then 0 else 60 := by
  unfold fitV
  rw [if_pos rfl]
  by_cases h : FR qf m = true
  · rw [if_pos h]
    exact nz_zero _ m 0 (fun k _ hk => by rw [nul_step, fr_all m h k (by omega)]; rfl)
  · rw [if_neg h]
    obtain ⟨i, h1, h2⟩ := fr_not m (by simpa using h)
    exact nz_some _ 60 (by decide) (fun k => by rw [nul_step]; split <;> simp) m 0 ⟨i, by omega, by omega, by rw [nul_step, if_pos h2]⟩
theorem nul_row (m : Nat) : (rowB (fun _ => 0) (fun _ => 0) (fun _ => Em) m).length = (m + 7) / 8 := by
  have h : ∀ k, rvs (fun _ => 0) (fun _ => 0) (fun _ => Em) k = [] := by
    intro k
    induction k with
    | zero => rfl
    | succ k ih => unfold rvs; rw [ih, rv0]; rfl
  unfold rowB
  rw [h, List.append_nil, rbits_length]

set_option maxHeartbeats 4000000 in
theorem walk {H : Type} {enc : TypeId × Value → H} (base : Nat) (v0 : Value) (d0 : DataW H) (p0 : List MemPlace) (W : World)
    (o0 : Value.okWide Try.prog W .any base 22 v0) (h0 : DataW.Trod enc Try.prog W 0 (fun _ => true) true 22 v0 d0 p0)
    (hk : Rows.uptoSmall H [d0] = true) :
    Calls Try.prog 7 #[v0] W fun e w' => e = .returned (.bool true) ∧ Below W.heap.size W w' := by
  obtain ⟨a, m, cap, b, off, mf, tf, qf, rfl, hl, hm, ha, hA, hI, -⟩ := open_cols o0 h0 (up_arg hk (by simp))
  obtain ⟨i0, hi, hz0, hz1, hz2⟩ := info_parts infoV
  have HS := Lib.hid speaks6_any
  have HA := Lib.hid ha
  have hm1 : m ≤ 1048576 := by omega
  have HNF := Lib.hid (nul_fit m tf qf)
  have HNR := Lib.hid (nul_row m)
  have hnb : i0.bytes * m ≤ 281474976710656 := by rw [hz2]; omega
  have hnm : m ≤ maxLen := by unfold maxLen; omega
  clear o0 h0 hk ha hI hm
  go_enter Try.func7, Try.ntmps7
  go_wp2_with fail
  refine (HS.out _).mono ?_
  rintro x w0 ⟨rfl, b0⟩
  have A0 := Lib.hid (hA.below b0)
  have W0 := Lib.hid b0
  clear b0 hA
  go_upto_region 4 with (first | (at_make; refine wpList_make_full _ rfl _ _ 23 rfl w0.heap.size 43 i0 _ 3 Try.underlying23 hi hz0 hz1 _ _ _ _ m rfl rfl (by first | rfl | omega) (by first | rfl | omega) hnb hnm (Nat.le_refl _) ?_; intro w1 hown1 hgrow1; have V1 := Lib.hid (isV_made hown1); have hb1 : Below w0.heap.size w0 w1 := (Below.refl _ _).grown hgrow1 (Nat.le_refl _) (fun k hk => by cases hk); clear hown1 hgrow1))
  have A1 := Lib.hid (A0.out.below hb1)
  have W1 := Lib.hid (stepB W0.out hb1)
  generalize w0.heap.size = g at *
  clear hb1 A0
  go_wp2
  go_loopw [16, 4] (fun i f wr => ∃ k : Nat, k ≤ m ∧ i = .int .i64 k ∧ f = .bool (FR qf k) ∧ Below w1.heap.size w1 wr) (fun i _ _ => m - (intOf i).toNat)
  case atStart => exact ⟨0, Nat.zero_le _, rfl, rfl, Below.refl _ _⟩
  case round =>
    obtain ⟨k, hk, rfl, rfl, hb⟩ := hrel
    by_cases d : k < m
    · have d1 : (k : Int) < (m : Int) := by omega
      obtain rfl : a = some ⟨b, off, none⟩ := by rcases HA.out with h | h; omega; exact h
      have hA' := A1.out.below hb
      have a0 := hA'.c0 k d
      have a1 := hA'.c1 k d
      have a2 := hA'.c2 k d
      have hz := hb.size
      have hfr : FR qf (k + 1) = (FR qf k && !qf k) := rfl
      have HFR := Lib.hid hfr
      generalize FR qf k = f at *
      generalize qf k = q at *
      clear hA' hfr
      rcases f with _ | _
      · go_wp2
        go_roundw
        case rel => exact ⟨k + 1, by omega, by go_num, by rw [HFR.out]; rfl, hb.alloc hz _⟩
        case measure => simp [intOf]; omega
      · rcases q with _ | _
        all_goals
          go_wp2
          go_roundw
          case rel => exact ⟨k + 1, by omega, by go_num, by rw [HFR.out]; rfl, hb.alloc hz _⟩
          case measure => simp [intOf]; omega
    · obtain rfl : k = m := by omega
      have d1 : ¬ (k : Int) < (k : Int) := by omega
      have A2 := Lib.hid (A1.out.below hb)
      have V2 := Lib.hid (V1.out.below hb)
      have W2 := Lib.hid (stepB W1.out hb)
      clear hb
      go_wp2_with fail
      refine (copycols_own a k cap b off mf tf qf (by omega) wr HA.out A2.out).mono ?_
      rintro x w3 ⟨v3, rfl, o3, b3⟩
      obtain ⟨g3, c3, rfl, -, -, -, i3⟩ := o3.isC
      have V3 := Lib.hid (V2.out.below b3)
      have W3 := Lib.hid (stepB W2.out b3)
      have hE := enc_r (some ⟨g3, 0, none⟩) (some ⟨g, 0, none⟩) g3 0 k c3 g 0 k k mf tf qf (fun _ => 0) (fun _ => 0) (fun _ => Em) (by omega) (by omega) w3 (.inr rfl) (.inr rfl) i3 V3.out (fun i _ => ⟨by unfold InI; decide, by decide⟩)
      have hF := HNF.out
      have hL := HNR.out
      generalize fitV k k tf qf (fun _ => 0) (fun _ => 0) (fun _ => Em) = F at *
      generalize rowB (fun _ => 0) (fun _ => 0) (fun _ => Em) k = L at *
      have HE := Lib.hid hE
      clear hE i3 o3 b3
      go_wp2_with fail
      refine HE.out.mono ?_
      rintro x w4 ⟨v4, rfl, o4, o4', b4⟩
      have W4 := Lib.hid (stepB W3.out b4)
      clear b4
      by_cases h : FR qf k = true
      · rw [if_pos h] at hF
        subst hF
        obtain ⟨a4, g4, c4, e4, -⟩ : ∃ (a : Option Addr) (g cap : Nat), v4 = .slice a L.length cap ∧ True := by
          rcases o4 rfl with ⟨e, e2⟩ | ho
          · exact ⟨none, 0, 0, by rw [e2]; exact e, trivial⟩
          · obtain ⟨g4, c4, e, -⟩ := ho.form
            exact ⟨_, 0, _, e, trivial⟩
        rw [hL] at e4
        subst e4
        rw [h]
        have q1 : Int.tdiv ((k : Int) + 7) 8 = (((k + 7) / 8 : Nat) : Int) := by rw [Int.tdiv_eq_ediv_of_nonneg (by omega)]; omega
        have q2 : ((k : Int) + 7) / 8 = (((k + 7) / 8 : Nat) : Int) := by omega
        generalize (k + 7) / 8 = kk at *
        clear o4 o4'
        go_wp2
        go_ret
        exact ⟨by simp, W4.out⟩
      · rw [if_neg h] at hF
        subst hF
        obtain ⟨a4, c4, rfl⟩ := o4' (by decide)
        have h' : FR qf k = false := by simpa using h
        rw [h']
        clear o4 o4'
        go_wp2
        go_ret
        exact ⟨rfl, W4.out⟩

set_option maxRecDepth 100000 in
theorem lifted (os : Os) (started : os.Started) (H : Type) (enc : TypeId × Value → H) (F : Stop.Interp) :
    ReturnsInHanded {} Try.checked os 7 .any ((Rows.OpenSpec.upto Rows.rowsNullsSpec).pre6 enc Try.prog Try.f7 Rows.rowsNullsUptoRow.domain false) (((Rows.OpenSpec.upto Rows.rowsNullsSpec).at F).post enc Try.prog Try.f7 false true false false) := by
  refine returnsInHanded_of_cond (C := Try.checked) (s := Rows.OpenSpec.upto Rows.rowsNullsSpec) (k := Rows.uptoSmall) rfl own started (by kernel_rfl) Try.func7
    (OpenSpec.witness (enc := enc) (C := Try.checked) (s := Rows.OpenSpec.upto Rows.rowsNullsSpec) (k := Rows.uptoSmall) rfl false ⟨#[], #[.slice none 0 0], []⟩ 8 (by kernel_rfl) (by kernel_rfl) (by kernel_rfl)
      (x := ([.nil], [], [])) (by kernel_rfl) rfl (by kernel_rfl)) ?_
  intro W base args ds gs before hval0 hW _ hk0 _
  have hval : ∀ (j : Nat) t v, Try.f7.params[j]? = some t → args[j]? = some v → Value.okWide Try.prog W .any base t v := hval0
  have hW' := hW
  obtain ⟨p, q, hA0, hV, rfl, hfz, hnd⟩ := hW
  have hA : DataW.TrodAll enc Try.prog W 0 (fun _ => true) true Try.f7.params.toList args.toList ds p := hA0
  rw [Try.params7] at hA hval
  obtain ⟨v0, vs0, d0, ds0, p0, q0, hargs, rfl, rfl, h0, r0⟩ := trodAll_cons hA
  obtain ⟨rfl, rfl, rfl⟩ := trodAll_nil r0
  obtain rfl : args = #[v0] := by cases args; simp_all
  obtain ⟨rfl, rfl⟩ := trodVars_none hV
  have hk : Rows.uptoSmall H [d0] = true := hk0
  have lt0 : ∀ x ∈ p0, x.block < W.heap.size := by obtain ⟨m, hm⟩ := h0; exact DataW.trod_lt m _ _ _ hm
  refine (walk (enc := enc) base v0 d0 p0 W (hval 0 22 v0 rfl rfl) h0 hk).mono fun e W' ⟨he, bel⟩ => ?_
  subst he
  exact ⟨_, rfl, _, _, _, [], _, [], hW', trodAll_mk1 (shut_bool Try.underlying4 _), (trodAll_cons_mk (Below.trod laidOut (by kernel_rfl) (of_decide_eq_true (by kernel_rfl)) h0 bel lt0) trodAll_mk0), rfl, bel.frame _, fun h => by cases h⟩

theorem over : Rows.rowsNullsUptoRow.holds Try.pinned (Rows.OpenSpec.upto Rows.rowsNullsSpec) :=
  OpenClaim.holds_of_cond 7 Try.f7 rfl rfl rfl rfl rfl rfl rfl ⟨rfl, rfl, rfl, rfl, rfl⟩ rfl rfl rfl rfl rfl (by kernel_rfl) Try.func7 (by kernel_rfl)
    (of_decide_eq_true (by kernel_rfl)) (by unfold Func.isWrapper; first | (rw [if_pos (by decide +kernel)]; kernel_rfl) | (rw [if_neg (by decide +kernel)]; exact ⟨rfl, rfl⟩))
    (fun os started H enc _ F => lifted os started H enc F)

theorem proved : Rows.RowsNullsUptoSaid :=
  over
end Go.Proofs.Ytpknoclnmhomiab.rowsNulls
