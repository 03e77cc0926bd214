/-
  The examples of the document for layer 3 hold; operators on two whole numbers.
  Conditions: none.
-/
import Derived.Test.YtceingfjdkpolaaAri7
import Derived.Test.YtceingfjdkpolaaEq
import Derived.Test.YtceingfjdkpolaaVal10
namespace Go.Proofs.Ytceingfjdkpolaa
open Go.RowKit Go.Joins Go.ChangeShapes Go.WideShapes
set_option linter.unusedVariables false

theorem num_any (n : Int) (w : World) :
    Calls Try.prog 17 #[.int .i64 n] w fun e w' => e = .returned (.agg #[.int .i64 2, .int .i64 n, .string E0]) ∧ Below w.heap.size w w' := by
  go_enter Try.func17, Try.ntmps17
  go_wp2
  exact bodyPost_ret (v := .agg #[.int .i64 2, .int .i64 n, .string E0]) (by simp [results, Try.results17, go_sem]) rfl ⟨rfl, (Below.refl _ _).alloc (Nat.le_refl _) _⟩

theorem opd_l0 (w : World) (k n : Int) (s : ByteArray) (k' n' : Int) (s' : ByteArray) : Opd (w.alloc (.cells #[.int .i64 k, .int .i64 n, .string s, .int .i64 k', .int .i64 n', .string s'] 25)) w.heap.size 0 k n s := by
  unfold Opd
  go_simp
theorem opd_l1 (w : World) (k n : Int) (s : ByteArray) (k' n' : Int) (s' : ByteArray) : Opd (w.alloc (.cells #[.int .i64 k, .int .i64 n, .string s, .int .i64 k', .int .i64 n', .string s'] 25)) w.heap.size (0 + 3) k' n' s' := by
  unfold Opd
  go_simp

/-- the outcome of an operator on whole numbers -/
def Wo (N : Int × Int) : Int × Int × ByteArray × Int := if N.2 = 0 then (2, N.1, E0, 0) else (0, 0, E0, N.2)

theorem do2_num (op a b : Int) (ho : op = 7 ∨ op = 8 ∨ op = 9 ∨ op = 10 ∨ op = 11) (ha : InI a) (hb : InI b) (w : World) :
    Calls Try.prog 12 #[.int .i64 op, .slice (some ⟨w.heap.size, 0, none⟩) 2 2] (w.alloc (.cells #[.int .i64 2, .int .i64 a, .string E0, .int .i64 2, .int .i64 b, .string E0] 25)) fun e w' =>
      e = .returned (Out (Wo (wholeV op a b)).1 (Wo (wholeV op a b)).2.1 (Wo (wholeV op a b)).2.2.1 (Wo (wholeV op a b)).2.2.2) ∧ Below w.heap.size w w' := by
  have hT : tyV op 2 2 2 = 2 := by rcases ho with rfl | rfl | rfl | rfl | rfl <;> rfl
  have hc : cntV op = 2 := by rcases ho with rfl | rfl | rfl | rfl | rfl <;> rfl
  have hN : numV op 2 a b = wholeV op a b := by rcases ho with rfl | rfl | rfl | rfl | rfl <;> simp [numV]
  refine (do2_full op w.heap.size 0 2 2 a E0 2 b E0 _ (by simp) (opd_l0 w _ _ _ _ _ _) (opd_l1 w _ _ _ _ _ _) hc (by decide) (by decide) ha hb (by decide) (by decide) 2 hT _ hN (Wo (wholeV op a b)) ?_).mono ?_
  · right; right; right
    refine ⟨rfl, rfl, .inr (.inr (.inr ⟨by decide, by unfold OpsI; omega⟩)), ?_⟩
    unfold Wo
    by_cases z : (wholeV op a b).2 = 0
    · right; rw [if_pos z]; exact ⟨z, rfl⟩
    · left; rw [if_neg z]; exact ⟨by simpa using z, rfl⟩
  · rintro e w' ⟨h1, h2⟩
    exact ⟨h1, ((Below.refl _ _).alloc (Nat.le_refl _) _).trans (h2.mono (by simp))⟩

theorem do2_nul (n : Int) (w : World) :
    Calls Try.prog 12 #[.int .i64 10, .slice (some ⟨w.heap.size, 0, none⟩) 2 2] (w.alloc (.cells #[.int .i64 0, .int .i64 0, .string E0, .int .i64 2, .int .i64 n, .string E0] 25)) fun e w' =>
      e = .returned (Out 0 0 E0 0) ∧ Below w.heap.size w w' :=
  (do2_null0 10 w.heap.size 0 2 0 0 E0 2 n E0 _ (by simp) (opd_l0 w _ _ _ _ _ _) (opd_l1 w _ _ _ _ _ _) rfl rfl).mono fun e w' ⟨h1, h2⟩ =>
    ⟨h1, ((Below.refl _ _).alloc (Nat.le_refl _) _).trans (h2.mono (by simp))⟩

theorem isI_l (w : World) (a b : Int) : IsI (w.alloc (.cells #[.int .i64 a, .int .i64 b] 3)) w.heap.size 0 2 (two a b) := by
  refine ⟨fun _ => by simp, fun i hi => ?_⟩
  match i, hi with
  | 0, _ => go_simp; exact rfl
  | 1, _ => go_simp; exact rfl

theorem ty2 (op a b T : Int) (hc : cntV op = 2) (hT : tyV op 2 a b = T) (w : World) (g : Nat) (hg : w.heap.size = g) :
    Calls Try.prog 15 #[.int .i64 op, .slice (some ⟨g, 0, none⟩) 2 2] (w.alloc (.cells #[.int .i64 a, .int .i64 b] 3)) fun e w' =>
      e = .returned (.tuple #[.int .i64 T, .bool (T != 0)]) ∧ (w.alloc (.cells #[.int .i64 a, .int .i64 b] 3)) = w' := by
  subst hg
  have h := type_good op w.heap.size 0 2 2 (two a b) _ (.inr rfl) hc (isI_l w a b)
  have e : tyV op 2 (two a b 0) (two a b (2 - 1)) = T := hT
  rw [e] at h
  exact h

theorem w_div : Wo (wholeV 10 (-9223372036854775808) (-1)) = (0, 0, E0, 31) := by rfl
theorem w_mod : Wo (wholeV 11 (-7) 2) = (2, -1, E0, 0) := by rfl

abbrev V6 (g g' : Nat) : List (Nat × Nat × Value) := Vc g 2 (-1) E0 ++ Vc g' 0 0 E0
theorem v6_all {B g g' : Nat} {w w0 : World} (x : Rg B w w0 (V6 g g')) :
    Rg B w w0 (V6 g g') ∧ w0.cell? ⟨g, 0, none⟩ = some (.int .i64 2) ∧ w0.cell? ⟨g, 1, none⟩ = some (.int .i64 (-1)) ∧ w0.cell? ⟨g, 2, none⟩ = some (.string E0) ∧
    w0.cell? ⟨g', 0, none⟩ = some (.int .i64 0) ∧ w0.cell? ⟨g', 1, none⟩ = some (.int .i64 0) ∧ w0.cell? ⟨g', 2, none⟩ = some (.string E0) :=
  ⟨x, x.kp.hd.1, x.kp.tl.hd.1, x.kp.tl.tl.hd.1, x.kp.tl.tl.tl.hd.1, x.kp.tl.tl.tl.tl.hd.1, x.kp.tl.tl.tl.tl.tl.hd.1⟩

/-- a world with one more variable that holds a value -/
theorem rg_new {B : Nat} {w w0 : World} {l : List (Nat × Nat × Value)} (h : Rg B w w0 l) (k n : Int) (s : ByteArray) : Rg B w (w0.alloc (Vx k n s)) (l ++ Vc w0.heap.size k n s) := by
  have h1 := h.alloc (Vx k n s)
  refine ⟨h1.1, h1.2.1, fun x hx => ?_⟩
  rcases List.mem_append.1 hx with hx | hx
  · exact h1.2.2 x hx
  · simp only [List.mem_cons, List.not_mem_nil, or_false] at hx
    rcases hx with rfl | rfl | rfl <;> go_simp
theorem rg_nil (w : World) : Rg w.heap.size w w [] := ⟨Below.refl _ _, Nat.le_refl _, fun x hx => absurd hx (by simp)⟩
theorem rg_below {B : Nat} {w w0 w1 : World} {l : List (Nat × Nat × Value)} (h : Rg B w w0 l) (hb : Below w0.heap.size w0 w1) : Rg B w w1 l := h.step hb

set_option maxHeartbeats 800000 in
theorem speaks3_any (w : World) :
    Calls Try.prog 9 #[] w fun e w' => e = .returned (.bool true) ∧ Below w.heap.size w w' := by
  have hd := fun w => do2_num 10 (-9223372036854775808) (-1) (by omega) (by unfold InI; omega) (by unfold InI; omega) w
  have hm := fun w => do2_num 11 (-7) 2 (by omega) (by unfold InI; omega) (by unfold InI; omega) w
  rw [w_div] at hd
  rw [w_mod] at hm
  have HN := Lib.hid num_any
  have HD := Lib.hid hd
  have HM := Lib.hid hm
  have HU := Lib.hid (do2_nul 0)
  have HT1 := Lib.hid (ty2 7 0 3 3 rfl rfl)
  have HT2 := Lib.hid (ty2 7 0 0 0 rfl rfl)
  have hv1 := veq_self 2 (-1) E0
  have hv2 := veq_self 0 0 E0
  clear hd hm
  go_enter Try.func9, Try.ntmps9
  go_wp2_with fail
  refine (HN.out _ _).mono ?_
  rintro e w1 ⟨rfl, b1⟩
  have r1 := (rg_nil w).step b1
  clear b1
  go_wp2_with fail
  refine (HN.out _ _).mono ?_
  rintro e w2 ⟨rfl, b2⟩
  have r2 := r1.step b2
  clear b2 r1
  go_wp2_with fail
  refine (HD.out _).mono ?_
  rintro e w3 ⟨rfl, b3⟩
  have r3 := (r2.step b3).alloc (Vx 0 0 E0)
  clear b3 r2
  go_wp2_with fail
  refine (HN.out _ _).mono ?_
  rintro e w4 ⟨rfl, b4⟩
  have r4 := r3.step b4
  clear b4 r3
  go_wp2_with fail
  refine (HN.out _ _).mono ?_
  rintro e w5 ⟨rfl, b5⟩
  have r5 := r4.step b5
  clear b5 r4
  go_wp2_with fail
  refine (HM.out _).mono ?_
  rintro e w6 ⟨rfl, b6⟩
  have r6 := rg_new (r5.step b6) 2 (-1) E0
  clear b6 r5
  go_wp2_with fail
  refine (HN.out _ _).mono ?_
  rintro e w7 ⟨rfl, b7⟩
  have r7 := r6.step b7
  clear b7 r6
  go_wp2_with fail
  refine (HU.out _).mono ?_
  rintro e w8 ⟨rfl, b8⟩
  have r8 := rg_new (r7.step b8) 0 0 E0
  clear b8 r7
  go_wp2_with fail
  refine (HT1.out (w8.alloc (Vx 0 0 E0)) _ (by simp)).mono ?_
  rintro e w9 ⟨rfl, rfl⟩
  have r9 := r8.alloc (.cells #[.int .i64 0, .int .i64 3] 3)
  clear r8
  go_wp2_with fail
  refine (HT2.out ((w8.alloc (Vx 0 0 E0)).alloc (.cells #[.int .i64 0, .int .i64 3] 3)) _ (by simp)).mono ?_
  rintro e w10 ⟨rfl, rfl⟩
  have r10 := r9.alloc (.cells #[.int .i64 0, .int .i64 0] 3)
  clear r9
  go_wp2_with fail
  have hk := v6_all r10
  clear r10 HD HM HU HT1 HT2
  generalize (((w8.alloc (Vx 0 0 E0)).alloc (.cells #[.int .i64 0, .int .i64 3] 3)).alloc (.cells #[.int .i64 0, .int .i64 0] 3)) = wb at *
  generalize w6.heap.size = g at *
  generalize w8.heap.size = g' at *
  go_region_held3 (fun w0 => Rg w.heap.size w w0 (V6 g g') ∧ w0.cell? ⟨g, 0, none⟩ = some (.int .i64 2) ∧ w0.cell? ⟨g, 1, none⟩ = some (.int .i64 (-1)) ∧ w0.cell? ⟨g, 2, none⟩ = some (.string E0) ∧
      w0.cell? ⟨g', 0, none⟩ = some (.int .i64 0) ∧ w0.cell? ⟨g', 1, none⟩ = some (.int .i64 0) ∧ w0.cell? ⟨g', 2, none⟩ = some (.string E0))
    (first | (go_split_ands; exact v6_all (by assumption)) | (go_split_ands; exact v6_all (Rg.drew (by assumption))) | (go_split_ands; exact v6_all (Rg.step (by assumption) hbx)))
    (first | (go_at_call 17; refine (HN.out _ _).mono ?_; rintro e w1 ⟨rfl, hbx⟩))
  all_goals
    go_split_ands
    go_wp2
    go_ret
    exact ⟨rfl, Rg.bel (by assumption)⟩

end Go.Proofs.Ytceingfjdkpolaa
