/-
  ArithWhole answers true at any two whole numbers: quotient and rest make the dividend again, and a sum less one of its parts is the other one.
  Conditions: none but the row's own.
-/
import Derived.Test.YtceingfjdkpolaaAri9
import Derived.Test.YtceingfjdkpolaaRows
import Derived.WalkKit
import Derived.ProofKit
import Derived.OpenShut
import Derived.ShutString
import Derived.ChangeOld
import Derived.Below
import Derived.Carry
namespace Go.Proofs.Ytceingfjdkpolaa.arithWhole
open Go.ChangeShapes Go.WideShapes Go.ChangeAt Go.RowKit
open Go.Joins
set_option linter.unusedVariables false

theorem own : ownKnob Try.prog.godebug = none := by kernel_rfl
theorem laidOut : laidOutB Try.prog = true := by kernel_rfl

theorem s_all {B g : Nat} {w w0 : World} {n : Int} (x : Rg B w w0 (Vc g 2 n E0)) :
    Rg B w w0 (Vc g 2 n E0) ∧ w0.cell? ⟨g, 0, none⟩ = some (.int .i64 2) ∧ w0.cell? ⟨g, 1, none⟩ = some (.int .i64 n) ∧ w0.cell? ⟨g, 2, none⟩ = some (.string E0) :=
  ⟨x, x.kp.hd.1, x.kp.tl.hd.1, x.kp.tl.tl.hd.1⟩

theorem far3 {B g k : Nat} {w w0 : World} {n : Int} (a b c : Value) (h : Rg B w w0 (Vc g 2 n E0)) (h1 : g < k) (h2 : B ≤ k) : Rg B w (((w0.setCell ⟨k, 0, none⟩ a).setCell ⟨k, 1, none⟩ b).setCell ⟨k, 2, none⟩ c) (Vc g 2 n E0) := by
  have far : ∀ (w0 : World) (o : Nat) (u : Value), Rg B w w0 (Vc g 2 n E0) → Rg B w (w0.setCell ⟨k, o, none⟩ u) (Vc g 2 n E0) := by
    intro w0 o u h
    refine ⟨h.1.setCell h2 u, by simpa [World.setCell] using h.2.1, fun x hx => ?_⟩
    obtain ⟨p, q, r⟩ := h.2.2 x hx
    refine ⟨by simpa [World.setCell] using p, ?_, by simpa using r⟩
    have hx1 : x.1 = g := by
      simp only [List.mem_cons, List.not_mem_nil, or_false] at hx
      rcases hx with rfl | rfl | rfl <;> rfl
    rw [World.cell?_setCell_other _ _ _ _ (fun e => by injection e with e1 e2; omega)]
    exact q
  exact far _ _ _ (far _ _ _ (far _ _ _ h))

theorem set3_all {w : World} {k : Nat} (a b c : Value) (h0 : (w.cell? ⟨k, 0, none⟩).isSome = true) (h1 : (w.cell? ⟨k, 1, none⟩).isSome = true) (h2 : (w.cell? ⟨k, 2, none⟩).isSome = true) :
    (((w.setCell ⟨k, 0, none⟩ a).setCell ⟨k, 1, none⟩ b).setCell ⟨k, 2, none⟩ c).cell? ⟨k, 0, none⟩ = some a ∧ (((w.setCell ⟨k, 0, none⟩ a).setCell ⟨k, 1, none⟩ b).setCell ⟨k, 2, none⟩ c).cell? ⟨k, 1, none⟩ = some b ∧
    (((w.setCell ⟨k, 0, none⟩ a).setCell ⟨k, 1, none⟩ b).setCell ⟨k, 2, none⟩ c).cell? ⟨k, 2, none⟩ = some c := by
  have o : ∀ (w : World) (i j : Nat) (v : Value), i ≠ j → (w.setCell ⟨k, i, none⟩ v).cell? ⟨k, j, none⟩ = w.cell? ⟨k, j, none⟩ := fun w i j v h => World.cell?_setCell_other _ _ _ _ (fun e => by injection e with e1 e2; omega)
  refine ⟨?_, ?_, ?_⟩
  · rw [o _ 2 0 _ (by decide), o _ 1 0 _ (by decide)]
    exact World.cell?_setCell_same' _ _ _ h0
  · rw [o _ 2 1 _ (by decide)]
    exact World.cell?_setCell_same' _ _ _ (by rw [o _ 0 1 _ (by decide)]; exact h1)
  · exact World.cell?_setCell_same' _ _ _ (by rw [o _ 1 2 _ (by decide), o _ 0 2 _ (by decide)]; exact h2)

theorem lt_keep {w w1 : World} (hb : Below w.heap.size w w1) : ∀ k, k < w.heap.size → k < w1.heap.size := fun k h => Nat.lt_of_lt_of_le h hb.size
theorem le_keep {w w1 : World} (hb : Below w.heap.size w w1) : ∀ k, k < w.heap.size → k ≤ w1.heap.size := fun k h => Nat.le_of_lt (Nat.lt_of_lt_of_le h hb.size)

def HM (a b k1 n1 e1 n2 e2 : Int) : Prop := ((b == 0) = true ∧ e1 = 32 ∧ e2 = 32) ∨ ((b == 0) = false ∧ (b == -1) = true ∧ (a == -9223372036854775808) = true ∧ e1 = 31 ∧ e2 = 0) ∨
  ((b == 0) = false ∧ e1 = 0 ∧ e2 = 0 ∧ ((a == -9223372036854775808) = false ∨ (a == -9223372036854775808) = true ∧ (b == -1) = false) ∧ ∃ p, wrap64 (n1 * b) = p ∧ wrap64 (p + n2) = a)
def HL (a b k3 n3 e3 : Int) : Prop := (e3 = 0 ∧ k3 = 2 ∧ n3 = a + b ∧ InI (a + b)) ∨ (e3 = 31 ∧ ((a < 0 ∧ b < 0) ∨ (decide (a < 0) = false ∧ decide (b < 0) = false)) ∧ ((a == 0) = false ∧ (a != 0) = true) ∧ (b == 0) = false ∧ (b != 0) = true)

set_option maxRecDepth 100000 in
set_option maxHeartbeats 8000000 in
theorem whole_walk (a b k1 n1 e1 k2 n2 e2 k3 n3 e3 : Int) (d1 : DoIs 10 a b k1 n1 e1) (d2 : DoIs 11 a b k2 n2 e2) (d3 : DoIs 7 a b k3 n3 e3) (ia : InI a) (ib : InI b) (hm : HM a b k1 n1 e1 n2 e2) (hl : HL a b k3 n3 e3) (W : World) :
    Calls Try.prog 7 #[.int .i64 a, .int .i64 b] W fun e w' => e = .returned (.bool true) ∧ Below W.heap.size W w' := by
  have HS := Lib.hid speaks3_any
  have HN := Lib.hid num_any
  have HMM := Lib.hid hm
  have HLL := Lib.hid hl
  have IA := Lib.hid ia
  have IB := Lib.hid ib
  unfold DoIs at d1 d2 d3
  have D1 := Lib.hid d1
  have D2 := Lib.hid d2
  have D3 := Lib.hid d3
  clear hm hl d1 d2 d3 ia ib
  go_enter Try.func7, Try.ntmps7
  go_wp2_with fail
  refine (HS.out _).mono ?_
  rintro x w0 ⟨rfl, b0⟩
  have r0 := (rg_nil W).step b0
  clear b0
  go_wp2_with fail
  refine (HN.out _ _).mono ?_
  rintro x w1 ⟨rfl, b1⟩
  have r1 := r0.step b1
  clear b1 r0
  go_wp2_with fail
  refine (HN.out _ _).mono ?_
  rintro x w2 ⟨rfl, b2⟩
  have r2 := r1.step b2
  clear b2 r1
  go_wp2_with fail
  refine (D1.out _).mono ?_
  rintro x w3 ⟨rfl, b3⟩
  have r3 := rg_new (r2.step b3) k1 n1 E0
  clear b3 r2
  go_wp2_with fail
  refine (HN.out _ _).mono ?_
  rintro x w4 ⟨rfl, b4⟩
  have r4 := r3.step b4
  clear b4 r3
  go_wp2_with fail
  refine (HN.out _ _).mono ?_
  rintro x w5 ⟨rfl, b5⟩
  have r5 := r4.step b5
  clear b5 r4
  go_wp2_with fail
  refine (D2.out _).mono ?_
  rintro x w6 ⟨rfl, b6⟩
  have r6 := r5.step b6
  have R7 := Lib.hid (rg_new r6 k2 n2 E0)
  have c1 := r6.kp.tl.hd.1
  have l1 : w3.heap.size < w6.heap.size := r6.kp.lt
  clear b6 r5 r6 HS D1 D2
  rcases HMM.out with ⟨z1, rfl, rfl⟩ | ⟨z1, z3, z4, rfl, rfl⟩ | ⟨z1, rfl, rfl, z2, p, p1, p2⟩
  all_goals
    clear HMM
    try rcases z2 with z2 | ⟨z2, z3⟩
  all_goals
    go_wp2_with fail
    refine (HN.out _ _).mono ?_
    rintro x w8 ⟨rfl, b8⟩
    have r8 := R7.out.step b8
    clear b8 c1 l1 R7
    go_wp2_with fail
    refine (HN.out _ _).mono ?_
    rintro x w9 ⟨rfl, b9⟩
    have r9 := r8.step b9
    clear b9 r8
    go_wp2_with fail
    refine (D3.out _).mono ?_
    rintro x w10 ⟨rfl, b10⟩
    have R11 := Lib.hid (rg_new (r9.step b10) k3 n3 E0)
    clear b10 r9 D3
    rcases HLL.out with ⟨rfl, rfl, rfl, i3⟩ | ⟨rfl, hs, ⟨h1, h1'⟩, h2, h2'⟩
    · have H8 := Lib.hid (do2_at 8 (a + b) b 2 a E0 0 (by omega) i3 IB.out (by rw [wv8, show a + b - b = a by omega]; exact wo_chk IA.out))
      have hk := s_all (R11.out.sub (fun x hx => List.mem_append_right _ hx))
      have hv := veq_self 2 a E0
      clear HLL R11
      generalize hsum : a + b = n3 at *
      clear hsum i3
      go_wp2_with fail
      generalize w10.alloc (Vx 2 n3 E0) = wb at *
      generalize w10.heap.size = g at *
      have hlg0 := hk.1.kp.lt
      have hlb0 := hk.1.2.1
      go_cut [10, 11] (fun p e wx => ∃ g' : Nat, p = .pointer (some ⟨g', 0, none⟩) ∧ e = .int .i64 0 ∧ Rg W.heap.size W wx (Vc g' 2 a E0))
      case first =>
        go_region_held3 (fun w' => Rg W.heap.size W w' (Vc g 2 n3 E0) ∧ w'.cell? ⟨g, 0, none⟩ = some (.int .i64 2) ∧ w'.cell? ⟨g, 1, none⟩ = some (.int .i64 n3) ∧ w'.cell? ⟨g, 2, none⟩ = some (.string E0))
          (first | (go_split_ands; exact s_all (by assumption)) | (go_split_ands; exact s_all (Rg.drew (by assumption))) | (go_split_ands; exact s_all (Rg.step (by assumption) hbx)) | (go_split_ands; exact s_all (Rg.alloc (by assumption) _)) | (go_split_ands; exact s_all (Rg.alloc (Rg.alloc (by assumption) _) _)) | (go_split_ands; exact s_all (Rg.alloc (Rg.drew (by assumption)) _)) | (go_split_ands; exact s_all (far3 _ _ _ (by assumption) (by omega) (by omega))))
          (first
            | (go_at_call 17; refine (HN.out _ _).mono ?_; rintro x w12 ⟨rfl, hbx⟩; have og := Rg.step (And.left (by assumption)) hbx; obtain ⟨hcx, hfx⟩ := bcell hbx; have hzy := lt_keep hbx; have hzz := le_keep hbx; have hlg := og.kp.lt; have hlb := og.2.1; (first | (have hq0 : wb.heap.size < w12.heap.size := (by have hq := hbx.size; simp at hq; omega)) | skip))
            | (go_at_call 12; refine (H8.out _ _ ?_ ?_ ?_).mono ?_; (simp; try omega); (unfold Opd; go_simp); (unfold Opd; go_simp); rintro x w12 ⟨rfl, hbx⟩; have og := Rg.step (And.left (by assumption)) hbx; obtain ⟨hcx, hfx⟩ := bcell hbx; have hzy := lt_keep hbx; have hzz := le_keep hbx; have hlg := og.kp.lt; have hlb := og.2.1; (first | (have hq0 : wb.heap.size < w12.heap.size := (by have hq := hbx.size; simp at hq; omega)) | skip)))
        all_goals
          go_wp2_with fail
          go_meet
          first
            | exact ⟨_, rfl, rfl, (rg_new og 2 a E0).sub (fun x hx => List.mem_append_right _ hx)⟩
            | (refine ⟨_, rfl, rfl, (far3 _ _ _ og (by omega) (by omega)).bel, (far3 _ _ _ og (by omega) (by omega)).2.1, ?_⟩
               unfold Kp
               simp only [List.forall_mem_cons, List.not_mem_nil, false_implies, implies_true, and_true]
               refine ⟨⟨?_, ?_, ?_⟩, ⟨?_, ?_, ?_⟩, ?_, ?_, ?_⟩ <;> first | (go_simp; done) | (refine (set3_all _ _ _ ?_ ?_ ?_).1 <;> first | (simp [*]; done) | go_simp) | (refine (set3_all _ _ _ ?_ ?_ ?_).2.1 <;> first | (simp [*]; done) | go_simp) | (refine (set3_all _ _ _ ?_ ?_ ?_).2.2 <;> first | (simp [*]; done) | go_simp))
      case rest =>
        obtain ⟨g', rfl, rfl, hr⟩ := hcut
        have hk2 := s_all hr
        clear hr hk
        go_wp2_with fail
        go_region_held3 (fun w' => Rg W.heap.size W w' (Vc g' 2 a E0) ∧ w'.cell? ⟨g', 0, none⟩ = some (.int .i64 2) ∧ w'.cell? ⟨g', 1, none⟩ = some (.int .i64 a) ∧ w'.cell? ⟨g', 2, none⟩ = some (.string E0))
          (first | (go_split_ands; exact s_all (by assumption)) | (go_split_ands; exact s_all (Rg.drew (by assumption))) | (go_split_ands; exact s_all (Rg.step (by assumption) hbx)))
          (first | (go_at_call 17; refine (HN.out _ _).mono ?_; rintro x w12 ⟨rfl, hbx⟩))
        all_goals
          go_split_ands
          go_wp2
          go_ret
          exact ⟨rfl, Rg.bel (by assumption)⟩
    · clear HLL
      have bl := R11.out.bel
      rcases hs with ⟨s1, s2⟩ | ⟨s1, s2⟩
      all_goals
        first
          | exact absurd (z1.symm.trans h2) (by decide)
          | (go_wp2; go_ret; exact ⟨rfl, bl⟩)

set_option maxHeartbeats 8000000 in
theorem walk {H : Type} {enc : TypeId × Value → H} (base : Nat) (v0 : Value) (d0 : DataW H) (p0 : List MemPlace) (v1 : Value) (d1 : DataW H) (p1 : List MemPlace) (W : World)
    (o0 : Value.okWide Try.prog W .any base 2 v0) (h0 : DataW.Trod enc Try.prog W 0 (fun _ => true) true 2 v0 d0 p0)
    (o1 : Value.okWide Try.prog W .any base 2 v1) (h1 : DataW.Trod enc Try.prog W 0 (fun _ => true) true 2 v1 d1 p1) :
    Calls Try.prog 7 #[v0, v1] W fun e w' => e = .returned (.bool true) ∧ Below W.heap.size W w' := by
  obtain ⟨a, rfl, -, -, wa⟩ := open_int Try.underlying2 o0 h0
  obtain ⟨b, rfl, -, -, wb⟩ := open_int Try.underlying2 o1 h1
  have ia : InI a := bounds_i64 wa
  have ib : InI b := bounds_i64 wb
  have d3 : ∃ k3 n3 e3, DoIs 7 a b k3 n3 e3 ∧ HL a b k3 n3 e3 := by
    by_cases h : InI (a + b)
    · exact ⟨2, a + b, 0, do_is (.inl rfl) ia ib (by rw [wv7]; exact wo_chk h), .inl ⟨rfl, rfl, rfl, h⟩⟩
    · refine ⟨0, 0, 31, do_is (.inl rfl) ia ib (by rw [wv7]; exact wo_out h), .inr ⟨rfl, ?_, ?_, ?_⟩⟩
      all_goals unfold InI at *
      · by_cases c : a < 0
        · left; omega
        · right; exact ⟨by simp; omega, by simp; omega⟩
      · exact ⟨by simp; omega, by simp; omega⟩
      · exact ⟨by simp; omega, by simp; omega⟩
  obtain ⟨k3, n3, e3, q3, l3⟩ := d3
  by_cases hb : b = 0
  · have e1 : DoIs 10 a b 0 0 32 := do_is (by omega) ia ib (by rw [wv10]; unfold divV; rw [if_pos hb]; rfl)
    have e2 : DoIs 11 a b 0 0 32 := do_is (by omega) ia ib (by rw [wv11]; unfold modV; rw [if_pos hb]; rfl)
    exact whole_walk a b _ _ _ _ _ _ _ _ _ e1 e2 q3 ia ib (.inl ⟨by simpa using hb, rfl, rfl⟩) l3 W
  · have e2 : DoIs 11 a b 2 (a.tmod b) 0 := do_is (by omega) ia ib (by rw [wv11]; unfold modV; rw [if_neg hb]; rfl)
    have zb : (b == 0) = false := by simpa using hb
    by_cases hx : b = -1 ∧ a = -9223372036854775808
    · obtain ⟨x1, x2⟩ := hx
      have e1 : DoIs 10 a b 0 0 31 := do_is (by omega) ia ib (by rw [wv10]; unfold divV; rw [if_neg hb, x1, x2]; rfl)
      exact whole_walk a b _ _ _ _ _ _ _ _ _ e1 e2 q3 ia ib (.inr (.inl ⟨zb, by simpa using x1, by simpa using x2, rfl, rfl⟩)) l3 W
    · have e1 : DoIs 10 a b 2 (a.tdiv b) 0 := do_is (by omega) ia ib (by rw [wv10]; unfold divV; rw [if_neg hb]; exact wo_chk (div_in ia hb hx))
      obtain ⟨p1, p2⟩ := back_div (b := b) ia hb
      refine whole_walk a b _ _ _ _ _ _ _ _ _ e1 e2 q3 ia ib (.inr (.inr ⟨zb, rfl, rfl, ?_, _, p1, p2⟩)) l3 W
      by_cases c : a = -9223372036854775808
      · right; exact ⟨by simpa using c, by simpa using fun e => hx ⟨e, c⟩⟩
      · left; simpa using c

set_option maxRecDepth 100000 in
theorem lifted (os : Os) (started : os.Started) (H : Type) (enc : TypeId × Value → H) :
    ReturnsInHanded {} Try.checked os 7 .any (Rows.arithWholeSpec.pre6 enc Try.prog Try.f7 Rows.arithWholeRow.domain false) (Rows.arithWholeSpec.post enc Try.prog Try.f7 false true false false) := by
  refine returnsInHanded_of_change (C := Try.checked) own started (by kernel_rfl) Try.func7
    (ChangeSpec.witness6 (enc := enc) (C := Try.checked) false ⟨#[], #[.int .i64 0, .int .i64 0], []⟩ 8 (by kernel_rfl) (by kernel_rfl) (by kernel_rfl) (by kernel_rfl)) ?_
  intro W base args ds gs before hval0 hW hcnd _
  have hval : ∀ (j : Nat) t v, Try.f7.params[j]? = some t → args[j]? = some v → Value.okWide Try.prog W .any base t v := hval0
  have hW' := hW
  obtain ⟨p, q, hA0, hV, rfl, hfz, hnd⟩ := hW
  have hA : DataW.TrodAll enc Try.prog W 0 (fun _ => true) true Try.f7.params.toList args.toList ds p := hA0
  rw [Try.params7] at hA hval
  obtain ⟨v0, vs0, d0, ds0, p0, q0, hargs, rfl, rfl, h0, r0⟩ := trodAll_cons hA
  obtain ⟨v1, vs1, d1, ds1, p1, q1, rfl, rfl, rfl, h1, r1⟩ := trodAll_cons r0
  obtain ⟨rfl, rfl, rfl⟩ := trodAll_nil r1
  obtain rfl : args = #[v0, v1] := by cases args; simp_all
  obtain ⟨rfl, rfl⟩ := trodVars_none hV
  have lt0 : ∀ x ∈ p0, x.block < W.heap.size := by obtain ⟨m, hm⟩ := h0; exact DataW.trod_lt m _ _ _ hm
  have lt1 : ∀ x ∈ p1, x.block < W.heap.size := by obtain ⟨m, hm⟩ := h1; exact DataW.trod_lt m _ _ _ hm
  refine (walk (enc := enc) base v0 d0 p0 v1 d1 p1 W (hval 0 2 v0 rfl rfl) h0 (hval 1 2 v1 rfl rfl) h1).mono fun e W' ⟨he, bel⟩ => ?_
  subst he
  exact ⟨_, rfl, _, _, _, [], _, [], hW', trodAll_mk1 (shut_bool Try.underlying4 _), (trodAll_cons_mk (Below.trod laidOut (by kernel_rfl) (of_decide_eq_true (by kernel_rfl)) h0 bel lt0) (trodAll_cons_mk (Below.trod laidOut (by kernel_rfl) (of_decide_eq_true (by kernel_rfl)) h1 bel lt1) trodAll_mk0)), rfl, bel.frame _, fun h => by cases h⟩

theorem over : Rows.arithWholeRow.holds Try.pinned (OpenSpec.ofChange Rows.arithWholeSpec) :=
  OpenClaim.holds_of_wide 7 Try.f7 rfl rfl rfl rfl rfl rfl rfl ⟨rfl, rfl, rfl, rfl, rfl⟩ rfl rfl rfl rfl rfl (by kernel_rfl) Try.func7 (by kernel_rfl)
    (of_decide_eq_true (by kernel_rfl)) (by unfold Func.isWrapper; first | (rw [if_pos (by decide +kernel)]; kernel_rfl) | (rw [if_neg (by decide +kernel)]; exact ⟨rfl, rfl⟩))
    (fun os started H enc _ => lifted os started H enc)

theorem proved : Rows.ArithWholeSaid :=
  over
end Go.Proofs.Ytceingfjdkpolaa.arithWhole
