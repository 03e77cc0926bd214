/-
  The statements of layer 6: the example of the document.
  Conditions: none.
-/
import Derived.Test.YtpknoclnmhomiabRst
import Derived.Test.YtpknoclnmhomiabLay
namespace Go.Proofs.Ytpknoclnmhomiab
open Go.RowKit Go.Joins Go.ChangeShapes Go.WideShapes
set_option linter.unusedVariables false

abbrev R6 : List Vt := [(2, 1, Em), (0, 0, Em), (1, 1, Em)]
abbrev L6 : List Nat := [2, 1, 0, 0, 0, 0, 0, 0, 0, 1]
def tf6 (i : Nat) : Int := if i = 0 then 2 else if i = 1 then 4 else 1
theorem ex6_fit : fitV 3 3 tf6 (fun _ => false) (kF R6) (nF R6) (sF R6) = 0 := by decide +kernel
theorem ex6_row : rowB (kF R6) (nF R6) (sF R6) 3 = L6 := by decide +kernel
theorem ex6_str : strB L6 = ⟨#[2, 1, 0, 0, 0, 0, 0, 0, 0, 1]⟩ := by decide +kernel
theorem ex6_dec : rdec 3 tf6 (fun _ => false) L6 = (R6, 0) := by rfl
theorem isC6 (w : World) : IsC (w.alloc (.cells #[.string Em, .int .i64 2, .bool false, .string Em, .int .i64 4, .bool false, .string Em, .int .i64 1, .bool false] 47)) w.heap.size 0 3 (fun _ => Em) tf6 (fun _ => false) := by
  have hg := heap_alloc_new w (.cells #[.string Em, .int .i64 2, .bool false, .string Em, .int .i64 4, .bool false, .string Em, .int .i64 1, .bool false] 47)
  refine ⟨fun _ => by simp, ?_, ?_, ?_⟩
  all_goals
    intro i hi
    rw [cell_of_block hg]
    match i, hi with
    | 0, _ => rfl
    | 1, _ => rfl
    | 2, _ => rfl
theorem ex6_in : ∀ i, i < 3 → InI (nF R6 i) ∧ (sF R6 i).size ≤ 1048576 := by
  intro i hi
  match i, hi with
  | 0, _ => exact ⟨by unfold InI; decide, by decide⟩
  | 1, _ => exact ⟨by unfold InI; decide, by decide⟩
  | 2, _ => exact ⟨by unfold InI; decide, by decide⟩
abbrev ColB : Obj := .cells #[.string Em, .int .i64 2, .bool false, .string Em, .int .i64 4, .bool false, .string Em, .int .i64 1, .bool false] 47
abbrev RowB : Obj := .cells #[.int .i64 2, .int .i64 1, .string Em, .int .i64 0, .int .i64 0, .string Em, .int .i64 1, .int .i64 1, .string Em] 43

set_option maxRecDepth 100000 in
set_option maxHeartbeats 2000000 in
theorem speaks6_any (w : World) :
    Calls Try.prog 8 #[] w fun e w' => e = .returned (.bool true) ∧ Below w.heap.size w w' := by
  have hE := fun (w' : World) (g g' : Nat) (hC : IsC w' g 0 3 (fun _ => Em) tf6 (fun _ => false)) (hV : IsV w' g' 0 3 (kF R6) (nF R6) (sF R6)) => enc_r (some ⟨g, 0, none⟩) (some ⟨g', 0, none⟩) g 0 3 3 g' 0 3 3 _ tf6 _ _ _ _ (by omega) (by omega) w' (.inr rfl) (.inr rfl) hC hV ex6_in
  rw [ex6_fit, ex6_row] at hE
  have EE := Lib.hid hE
  have hC0 := (isC6 w).below ((Below.refl _ _).alloc (Nat.le_refl _) RowB)
  have hV0 := isV_l (w.alloc ColB) R6 #[.int .i64 2, .int .i64 1, .string Em, .int .i64 0, .int .i64 0, .string Em, .int .i64 1, .int .i64 1, .string Em] rfl
  rw [show (w.alloc ColB).heap.size = w.heap.size + 1 from by simp] at hV0
  have hb0 : Below w.heap.size w ((w.alloc ColB).alloc RowB) := ((Below.refl _ _).alloc (Nat.le_refl _) _).alloc (by simp) _
  have HC0 := Lib.hid hC0
  have HV0 := Lib.hid hV0
  have HB0 := Lib.hid hb0
  clear hE hC0 hV0 hb0
  go_enter Try.func8, Try.ntmps8
  go_wp2_with fail
  refine (EE.out _ _ _ HC0.out HV0.out).mono ?_
  rintro x w1 ⟨v1, rfl, o1, -, b1⟩
  obtain ⟨a1, g1, c1, e1, f1, i1, k1, k2⟩ := (o1 rfl).form (by decide)
  have O1 := Lib.hid (o1 rfl)
  have e1' : v1 = .slice a1 10 c1 := e1
  subst e1'
  have C1 := Lib.hid (HC0.out.below b1)
  have V1 := Lib.hid (HV0.out.below b1)
  have B1 := Lib.hid (HB0.out.trans (b1.mono HB0.out.size))
  have hD := dec_r (some ⟨w.heap.size, 0, none⟩) a1 w.heap.size 0 3 3 g1 0 c1 L6 (fun _ => Em) tf6 (fun _ => false) (by omega) (by decide) k1 k2 w1 (.inr rfl) f1 C1.out i1
  rw [ex6_dec] at hD
  have HD := Lib.hid hD
  clear b1 o1 e1 f1 i1 k1 k2 hD HC0 HV0
  go_wp2_with fail
  refine HD.out.mono ?_
  rintro x w2 ⟨v2, rfl, o2, -, b2⟩
  obtain ⟨a2, g2, c2, e2, f2, i2, -⟩ := (o2 rfl).form
  have e2' : v2 = .slice a2 3 c2 := e2
  subst e2'
  have s1 := (O1.out.below b2).str
  rw [ex6_str] at s1
  have C2 := Lib.hid (C1.out.below b2)
  have V2 := Lib.hid (V1.out.below b2)
  have B2 := Lib.hid (B1.out.trans (b2.mono B1.out.size))
  have HS := Lib.hid (samerow_all a2 (some ⟨w.heap.size + 1, 0, none⟩) g2 0 (w.heap.size + 1) 0 3 c2 3 (kF R6) (nF R6) (sF R6) (by decide) w2 f2 (.inr rfl) i2 V2.out)
  clear b2 o2 e2 f2 i2 HD
  go_wp2_with (first
    | (go_at_call 16; refine HS.out.mono ?_; rintro x w3 ⟨rfl, b3⟩; have B3 := Lib.hid (B2.out.trans (b3.mono B2.out.size)); have C3 := Lib.hid (C2.out.below b3); clear b3)
    | (go_at_call 13; refine (fit_r (some ⟨w.heap.size, 0, none⟩) none w.heap.size 0 3 3 0 0 0 0 (fun _ => Em) tf6 (fun _ => false) (fun _ => 0) (fun _ => 0) (fun _ => Em) (by omega) (by omega) _ (.inr rfl) (.inl rfl) C3.out ⟨fun h => absurd h (by omega), fun i hi => absurd hi (by omega), fun i hi => absurd hi (by omega), fun i hi => absurd hi (by omega)⟩ (fun i hi => absurd hi (by omega))).mono ?_; rintro x w4 ⟨rfl, b4⟩; have B4 := Lib.hid (B3.out.trans (b4.mono B3.out.size)); clear b4; rw [show fitV 3 0 tf6 (fun _ => false) (fun _ => 0) (fun _ => 0) (fun _ => Em) = 61 from rfl]))
  go_ret
  exact ⟨rfl, B4.out⟩

end Go.Proofs.Ytpknoclnmhomiab
