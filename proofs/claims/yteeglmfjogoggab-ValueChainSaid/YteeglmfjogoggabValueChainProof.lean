/-
  ValueChain answers true at any three values: the order of values is one, what comes ahead of what comes ahead comes ahead.
  Conditions: none but the row's own.
-/
import Derived.Test.YteeglmfjogoggabKeep
import Derived.Test.YteeglmfjogoggabChain
import Derived.Test.YteeglmfjogoggabRows
import Derived.WalkKit
import Derived.ProofKit
import Derived.OpenShut
import Derived.ShutString
import Derived.ChangeOld
import Derived.Below
import Derived.Carry
namespace Go.Proofs.Yteeglmfjogoggab.valueChain
open Go.ChangeShapes Go.WideShapes Go.ChangeAt Go.RowKit
open Go.Joins
set_option linter.unusedVariables false

theorem own : ownKnob Try.prog.godebug = none := by kernel_rfl
theorem laidOut : laidOutB Try.prog = true := by kernel_rfl


theorem walk {H : Type} {enc : TypeId × Value → H} (base : Nat) (v0 : Value) (d0 : DataW H) (p0 : List MemPlace) (v1 : Value) (d1 : DataW H) (p1 : List MemPlace) (v2 : Value) (d2 : DataW H) (p2 : List MemPlace) (W : World)
    (o0 : Value.okWide Try.prog W .any base 24 v0) (h0 : DataW.Trod enc Try.prog W 0 (fun _ => true) true 24 v0 d0 p0)
    (o1 : Value.okWide Try.prog W .any base 24 v1) (h1 : DataW.Trod enc Try.prog W 0 (fun _ => true) true 24 v1 d1 p1)
    (o2 : Value.okWide Try.prog W .any base 24 v2) (h2 : DataW.Trod enc Try.prog W 0 (fun _ => true) true 24 v2 d2 p2) :
    Calls Try.prog 9 #[v0, v1, v2] W fun e w' => e = .returned (.bool true) ∧ Below W.heap.size W w' := by
  obtain ⟨k, n, s, rfl, hk0, hn0, hs0⟩ := open_val o0 h0
  obtain ⟨k', n', s', rfl, hk1, hn1, hs1⟩ := open_val o1 h1
  obtain ⟨k2, n2, s2, rfl, hk2, hn2, hs2⟩ := open_val o2 h2
  have hc1 := compare_any k n s k' n' s'
  have hc2 := compare_any k' n' s' k2 n2 s2
  have hc3 := compare_any k n s k2 n2 s2
  have hch := chainV k n s k' n' s' k2 n2 s2
  generalize VCmp k n s k' n' s' = x at *
  generalize VCmp k' n' s' k2 n2 s2 = y at *
  generalize VCmp k n s k2 n2 s2 = z at *
  clear o0 h0 o1 h1 o2 h2
  unfold Vv
  have H1 := Lib.hid hc1
  have H2 := Lib.hid hc2
  have H3 := Lib.hid hc3
  have HCH := Lib.hid hch
  clear hc1 hc2 hc3 hch
  unfold Vv at H1 H2 H3
  go_enter Try.func9, Try.ntmps9
  go_wp2_with fail
  refine (speaks2_any _).mono ?_
  rintro e w0 ⟨rfl, b0⟩
  obtain ⟨hc, hf⟩ := bcell b0
  have a0 : w0.cell? ⟨W.heap.size, 0, none⟩ = some (.int .i64 k) := by rw [hc _ _ (by first | (simp; done) | (simp; omega))]; go_simp
  have a1 : w0.cell? ⟨W.heap.size, 1, none⟩ = some (.int .i64 n) := by rw [hc _ _ (by first | (simp; done) | (simp; omega))]; go_simp
  have a2 : w0.cell? ⟨W.heap.size, 2, none⟩ = some (.string s) := by rw [hc _ _ (by first | (simp; done) | (simp; omega))]; go_simp
  have a3 : w0.cell? ⟨W.heap.size + 1, 0, none⟩ = some (.int .i64 k') := by rw [hc _ _ (by first | (simp; done) | (simp; omega))]; go_simp
  have a4 : w0.cell? ⟨W.heap.size + 1, 1, none⟩ = some (.int .i64 n') := by rw [hc _ _ (by first | (simp; done) | (simp; omega))]; go_simp
  have a5 : w0.cell? ⟨W.heap.size + 1, 2, none⟩ = some (.string s') := by rw [hc _ _ (by first | (simp; done) | (simp; omega))]; go_simp
  have a6 : w0.cell? ⟨W.heap.size + 2, 0, none⟩ = some (.int .i64 k2) := by rw [hc _ _ (by first | (simp; done) | (simp; omega))]; go_simp
  have a7 : w0.cell? ⟨W.heap.size + 2, 1, none⟩ = some (.int .i64 n2) := by rw [hc _ _ (by first | (simp; done) | (simp; omega))]; go_simp
  have a8 : w0.cell? ⟨W.heap.size + 2, 2, none⟩ = some (.string s2) := by rw [hc _ _ (by first | (simp; done) | (simp; omega))]; go_simp
  have hh : Below (W.heap.size + 3) (((W.alloc (.cells #[.int .i64 k, .int .i64 n, .string s] 24)).alloc (.cells #[.int .i64 k', .int .i64 n', .string s'] 24)).alloc (.cells #[.int .i64 k2, .int .i64 n2, .string s2] 24)) w0 := b0.mono (by first | (simp; done) | (simp; omega))
  clear hc hf b0
  go_wp2_with fail
  go_region_held3 (fun w' => Below (W.heap.size + 3) (((W.alloc (.cells #[.int .i64 k, .int .i64 n, .string s] 24)).alloc (.cells #[.int .i64 k', .int .i64 n', .string s'] 24)).alloc (.cells #[.int .i64 k2, .int .i64 n2, .string s2] 24)) w' ∧ w'.cell? ⟨W.heap.size, 0, none⟩ = some (.int .i64 k) ∧ w'.cell? ⟨W.heap.size, 1, none⟩ = some (.int .i64 n) ∧ w'.cell? ⟨W.heap.size, 2, none⟩ = some (.string s) ∧ w'.cell? ⟨W.heap.size + 1, 0, none⟩ = some (.int .i64 k') ∧ w'.cell? ⟨W.heap.size + 1, 1, none⟩ = some (.int .i64 n') ∧ w'.cell? ⟨W.heap.size + 1, 2, none⟩ = some (.string s') ∧ w'.cell? ⟨W.heap.size + 2, 0, none⟩ = some (.int .i64 k2) ∧ w'.cell? ⟨W.heap.size + 2, 1, none⟩ = some (.int .i64 n2) ∧ w'.cell? ⟨W.heap.size + 2, 2, none⟩ = some (.string s2))
    (first | exact ⟨by first | assumption | exact Below.drew (by assumption), by assumption, by assumption, by assumption, by assumption, by assumption, by assumption, by assumption, by assumption, by assumption⟩ | (go_split_ands; exact keep3 (by assumption) (by first | (simp; done) | (simp; omega)) (by omega) hb (by assumption) (by assumption) (by assumption) (by assumption) (by assumption) (by assumption) (by assumption) (by assumption) (by assumption)))
    (first | (go_at_call 13; first | (with_reducible refine (H1.out _).mono ?_; rintro e w' ⟨rfl, hb⟩) | (with_reducible refine (H2.out _).mono ?_; rintro e w' ⟨rfl, hb⟩) | (with_reducible refine (H3.out _).mono ?_; rintro e w' ⟨rfl, hb⟩)))
  all_goals
    go_split_ands
    have hbz : Below W.heap.size W _ := (three_boxes _ _ _ _).trans (Below.mono (by assumption) (by omega))
    have HCH2 := HCH.out
    unfold Chain at HCH2
    clear HCH
    rcases HCH2 with ⟨rfl, rfl, rfl⟩ | ⟨rfl, rfl, rfl⟩ | ⟨rfl, rfl, rfl⟩ | ⟨rfl, rfl, rfl⟩ | ⟨rfl, rfl, rfl⟩ | ⟨rfl, rfl, rfl⟩ | ⟨rfl, rfl, rfl⟩ | ⟨rfl, rfl, rfl⟩ | ⟨rfl, rfl, rfl⟩ | ⟨rfl, rfl, rfl⟩ | ⟨rfl, rfl, rfl⟩ | ⟨rfl, rfl, rfl⟩ | ⟨rfl, rfl, rfl⟩
    all_goals
      go_wp2
      go_ret
      exact ⟨rfl, hbz⟩

set_option maxRecDepth 100000 in
theorem lifted (os : Os) (started : os.Started) (H : Type) (enc : TypeId × Value → H) :
    ReturnsInHanded {} Try.checked os 9 .any (Rows.valueChainSpec.pre6 enc Try.prog Try.f9 Rows.valueChainRow.domain false) (Rows.valueChainSpec.post enc Try.prog Try.f9 false true false false) := by
  refine returnsInHanded_of_change (C := Try.checked) own started (by kernel_rfl) Try.func9
    (ChangeSpec.witness6 (enc := enc) (C := Try.checked) false ⟨#[], #[.agg #[.int .i64 0, .int .i64 0, .string ByteArray.empty], .agg #[.int .i64 0, .int .i64 0, .string ByteArray.empty], .agg #[.int .i64 0, .int .i64 0, .string ByteArray.empty]], []⟩ 8 (by kernel_rfl) (by kernel_rfl) (by kernel_rfl) (by kernel_rfl)) ?_
  intro W base args ds gs before hval0 hW hcnd _
  have hval : ∀ (j : Nat) t v, Try.f9.params[j]? = some t → args[j]? = some v → Value.okWide Try.prog W .any base t v := hval0
  have hW' := hW
  obtain ⟨p, q, hA0, hV, rfl, hfz, hnd⟩ := hW
  have hA : DataW.TrodAll enc Try.prog W 0 (fun _ => true) true Try.f9.params.toList args.toList ds p := hA0
  rw [Try.params9] at hA hval
  obtain ⟨v0, vs0, d0, ds0, p0, q0, hargs, rfl, rfl, h0, r0⟩ := trodAll_cons hA
  obtain ⟨v1, vs1, d1, ds1, p1, q1, rfl, rfl, rfl, h1, r1⟩ := trodAll_cons r0
  obtain ⟨v2, vs2, d2, ds2, p2, q2, rfl, rfl, rfl, h2, r2⟩ := trodAll_cons r1
  obtain ⟨rfl, rfl, rfl⟩ := trodAll_nil r2
  obtain rfl : args = #[v0, v1, v2] := by cases args; simp_all
  obtain ⟨rfl, rfl⟩ := trodVars_none hV
  have lt0 : ∀ x ∈ p0, x.block < W.heap.size := by obtain ⟨m, hm⟩ := h0; exact DataW.trod_lt m _ _ _ hm
  have lt1 : ∀ x ∈ p1, x.block < W.heap.size := by obtain ⟨m, hm⟩ := h1; exact DataW.trod_lt m _ _ _ hm
  have lt2 : ∀ x ∈ p2, x.block < W.heap.size := by obtain ⟨m, hm⟩ := h2; exact DataW.trod_lt m _ _ _ hm
  refine (walk (enc := enc) base v0 d0 p0 v1 d1 p1 v2 d2 p2 W (hval 0 24 v0 rfl rfl) h0 (hval 1 24 v1 rfl rfl) h1 (hval 2 24 v2 rfl rfl) h2).mono fun e W' ⟨he, bel⟩ => ?_
  subst he
  exact ⟨_, rfl, _, _, _, [], _, [], hW', trodAll_mk1 (shut_bool Try.underlying4 _), (trodAll_cons_mk (Below.trod laidOut (by kernel_rfl) (of_decide_eq_true (by kernel_rfl)) h0 bel lt0) (trodAll_cons_mk (Below.trod laidOut (by kernel_rfl) (of_decide_eq_true (by kernel_rfl)) h1 bel lt1) (trodAll_cons_mk (Below.trod laidOut (by kernel_rfl) (of_decide_eq_true (by kernel_rfl)) h2 bel lt2) trodAll_mk0))), rfl, bel.frame _, fun h => by cases h⟩

theorem over : Rows.valueChainRow.holds Try.pinned (OpenSpec.ofChange Rows.valueChainSpec) :=
  OpenClaim.holds_of_wide 9 Try.f9 rfl rfl rfl rfl rfl rfl rfl ⟨rfl, rfl, rfl, rfl, rfl⟩ rfl rfl rfl rfl rfl (by kernel_rfl) Try.func9 (by kernel_rfl)
    (of_decide_eq_true (by kernel_rfl)) (by unfold Func.isWrapper; first | (rw [if_pos (by decide +kernel)]; kernel_rfl) | (rw [if_neg (by decide +kernel)]; exact ⟨rfl, rfl⟩))
    (fun os started H enc _ => lifted os started H enc)

theorem proved : Rows.ValueChainSaid :=
  over
end Go.Proofs.Yteeglmfjogoggab.valueChain
