/-
  The cycle from one of them (package waits): contracts over the translation.
  Conditions: the edges lie in memory.
-/
import Derived.Test.YtlhipnklljjahaaWt20
namespace Go.Proofs.Ytlhipnklljjahaa
open Go.RowKit Go.Joins Go.ChangeShapes Go.WideShapes
open Go.MapKept
set_option linter.unusedVariables false
set_option linter.unnecessarySimpa false
set_option linter.unusedSimpArgs false

def seN (w0 wx : World) (B sb b mb : Nat) (E : List Eg) (a : Int) (N : Nat) : Prop := ∃ f n M v7 P met, Sm w0 wx B sb b mb f n M v7 P met ∧ SeI E a M P met ∧ msS E P met = N
theorem se_next {w0 wx wy : World} {B sb b mb n : Nat} {E : List Eg} {a : Int} {f : Int → Option Value} {M : Int → List Int} {v7 : Value} {P met : List Int} {N : Nat} (h : Sm w0 wy B sb b mb f n M v7 P met) (hi : SeI E a M P met) (hl : msS E P met < N) (hN : N = lst (seN w0 wx B sb b mb E a)) :
    (∃ N, seN w0 wy B sb b mb E a N) ∧ lst (seN w0 wy B sb b mb E a) < lst (seN w0 wx B sb b mb E a) :=
  ⟨⟨_, f, n, M, v7, P, met, h, hi, rfl⟩, Nat.lt_of_le_of_lt (lst_le ⟨f, n, M, v7, P, met, h, hi, rfl⟩) (hN ▸ hl)⟩

set_option maxRecDepth 100000 in
set_option maxHeartbeats 2000000 in
theorem cycle_any {w0 w : World} {B sb b mb n : Nat} {f : Int → Option Value} {v7 : Value} {E : List Eg} (h : Sm w0 w B sb b mb f n (Sx E) v7 [] []) (hm : E.length ≤ 1048576) (a : Int) :
    Calls Try.prog 17 #[.pointer (some ⟨sb, 0, none⟩), .int .i64 a] w fun e w' => ∃ v o, e = .returned v ∧ Res (Sx E) a [(a, Sx E a)] [a] o ∧ QI w' w0.heap.size v o ∧ Frm (fun k => k = b) w0 w' := by
  generalize hP : (fun (e : Ending) (w' : World) => ∃ v o, e = .returned v ∧ Res (Sx E) a [(a, Sx E a)] [a] o ∧ QI w' w0.heap.size v o ∧ Frm (fun k => k = b) w0 w') = PP
  have HP := Lib.hid hP
  have HEN := Lib.hid (enter_any h (by simp) a)
  have HM := Lib.hid hm
  clear hP h hm
  go_enter Try.func17, Try.ntmps17
  go_wp2_with fail
  refine HEN.out.mono ?_
  rintro e w1 ⟨rfl, v1, h1⟩
  have H1 := Lib.hid (show seN w0 w1 B sb b mb E a (msS E [a] [a]) from ⟨f, n, _, v1, [a], [a], h1, SeI.start E a, rfl⟩)
  clear h1 HEN
  go_wp2_with fail
  go_loopw [] (fun wx => ∃ N, seN w0 wx B sb b mb E a N) (fun wx => lst (seN w0 wx B sb b mb E a))
  case atStart => exact ⟨_, H1.out⟩
  case round =>
    clear H1
    obtain ⟨f, n, M, v7, P, met, hS, hI, hN⟩ := lst_spec hrel
    have HE := Lib.hid (fun wy f' n' M' v' P' met' (h : Sm w0 wy B sb b mb f' n' M' v' P' met') (hi : SeI E a M' P' met') (hl : msS E P' met' < msS E P met) => se_next h hi hl hN)
    clear hrel hN
    obtain ⟨-, -, c2, -⟩ := hS.cells
    rcases Nat.eq_zero_or_pos P.length with h0 | h0
    · obtain rfl := List.eq_nil_of_length_eq_zero h0
      obtain ⟨a7, c7, e7, -⟩ := QR.form hS.wy
      have e7' : v7 = .slice a7 0 c7 := e7
      subst e7'
      have HF := Lib.hid (show PP (.returned (.slice a7 0 c7)) wr by
        rw [← HP.out]
        exact ⟨_, [], rfl, hI.done, hS.wy, hS.frm⟩)
      clear hS hI e7 h0 HE
      go_wp2_with fail
      exact HF.out
    · obtain ⟨P0, x, rfl⟩ := snoc_of h0
      obtain ⟨A7, B7, O7, C7, e7, -, -, -, -⟩ := QI.isN hS.wy
      obtain ⟨m, hm⟩ : ∃ m, (P0 ++ [x]).length = m := ⟨_, rfl⟩
      rw [hm] at e7
      subst e7
      have hpos : (0 : Int) < (m : Int) := by rw [← hm]; simp
      have hle : P0.length ≤ 4294967297 := by have h1 := hI.le; have h2 := hI.un; have h3 := HM.out; simp at h1; omega
      have hml : (M x).length ≤ 4294967296 := by have h1 := (hI.sub x).length_le; have h2 := Sx_len x E; have h3 := HM.out; omega
      have HWF := Lib.hid (waitsfor_any hS hle ((Sx_sorted x E).sublist (hI.sub x)) hml a)
      have HS := Lib.hid hS
      have HI := Lib.hid hI
      clear hS hI hle hml hm h0
      by_cases ha : a ∈ M x
      · have hda : decide (a ∈ M x) = true := decide_eq_true ha
        have HFX := Lib.hid (fun w2 (hb : Below wr.heap.size wr w2) => show PP (.returned (.slice A7 m C7)) w2 ∧ w2.cell? ⟨sb, 2, none⟩ = some (.slice A7 m C7) by
          have h2 := HS.out.below hb
          refine ⟨?_, h2.cells.2.2.1⟩
          rw [← HP.out]
          exact ⟨_, _, rfl, HI.out.found ha, h2.wy, h2.frm⟩)
        rw [hda] at HWF
        clear ha hda HE HS HI
        go_wp2_with (first | (go_at_call 30; refine HWF.out.mono ?_; rintro e w2 ⟨rfl, b2⟩; have HF := Lib.hid (HFX.out w2 b2).1; have x2 := (HFX.out w2 b2).2; clear b2))
        exact HF.out
      · have hda : decide (a ∈ M x) = false := decide_eq_false ha
        have HST := Lib.hid (fun w2 (hb : Below wr.heap.size wr w2) => step_any (HS.out.below hb) HI.out ha HM.out)
        rw [hda] at HWF
        clear ha hda HS HI
        go_wp2_with (first | (go_at_call 30; refine HWF.out.mono ?_; rintro e w2 ⟨rfl, b2⟩; have HS2 := Lib.hid (HST.out w2 b2); clear b2))
        refine HS2.out.mono ?_
        rintro e w3 ⟨rfl, f3, n3, M3, v3, P3, met3, h3, i3, l3⟩
        have HF := Lib.hid (HE.out w3 _ _ _ _ _ _ h3 i3 l3)
        clear h3 i3 l3 HE
        go_wp2_with fail
        exact HF.out

set_option maxHeartbeats 2000000 in
theorem cyc_any (W : World) (b0 off cap : Nat) (E : List Eg) (h : IsEg W b0 off E) (hm : E.length ≤ 1048576) (a : Int) :
    Calls Try.prog 8 #[.slice (some ⟨b0, off, none⟩) E.length cap, .int .i64 a] W fun e w' => ∃ v o, e = .returned v ∧ Res (Sx E) a [(a, Sx E a)] [a] o ∧ QI w' W.heap.size v o ∧ Below W.heap.size W w' := by
  generalize hP : (fun (e : Ending) (w' : World) => ∃ v o, e = .returned v ∧ Res (Sx E) a [(a, Sx E a)] [a] o ∧ QI w' W.heap.size v o ∧ Below W.heap.size W w') = PP
  have HP := Lib.hid hP
  have HG := Lib.hid (graph_any W b0 off cap E h (by omega))
  have HM := Lib.hid hm
  clear hP h hm
  go_enter Try.func8, Try.ntmps8
  go_wp2_with fail
  refine HG.out.mono ?_
  rintro e w1 ⟨B, b, f, n, rfl, hB, hg, b1⟩
  obtain ⟨mb, hmb⟩ : ∃ x, w1.heap.size = x := ⟨_, rfl⟩
  obtain ⟨w2, hw2⟩ : ∃ x, w1.alloc (.map #[] 0) = x := ⟨_, rfl⟩
  have b2 : Below w1.heap.size w1 w2 := by rw [← hw2]; exact (Below.refl _ _).alloc (Nat.le_refl _) _
  have hs2 : SetM w2 mb [] := by rw [← hw2]; exact setm_made w1 mb hmb
  have hmk : (Instr.makeMap 37 none).run Try.prog w1 = .ok (.map (some mb)) w2 := by rw [← hw2, ← hmb]; rfl
  obtain ⟨sb, hsb⟩ : ∃ x, w2.heap.size = x := ⟨_, rfl⟩
  obtain ⟨w3, hw3⟩ : ∃ x, w2.alloc (.cells #[.map (some b), .map (some mb), nilV] 39) = x := ⟨_, rfl⟩
  have b3 : Below w2.heap.size w2 w3 := by rw [← hw3]; exact (Below.refl _ _).alloc (Nat.le_refl _) _
  have hx3 : w3.heap[sb]? = some (.cells #[.map (some b), .map (some mb), nilV] 39 (0, 0)) := by rw [← hw3, ← hsb]; exact heap_alloc_new w2 _
  have b13 := btr b2 b3
  have hsm : Sm w1 w3 B sb b mb f n (Sx E) nilV [] [] := by
    refine ⟨Frm.of_below b13, (hg.below b13).grs, fun x k hk => ?_, hs2.step (F := fun _ => False) (Frm.of_below b3) (fun h => h), hx3, QI.nil _ _, ⟨by rw [← hsb]; exact b2.size, by omega⟩, hg.mp.lt⟩
    exact ((hg.row x).lt k hk).2
  have HCY := Lib.hid (cycle_any hsm HM.out a)
  have HB1 := Lib.hid b1
  have HBB := Lib.hid (show W.heap.size ≤ b from Nat.le_trans hB hg.bb)
  have HW1 := Lib.hid b1.size
  have HW3 := Lib.hid hw3
  clear hsm hx3 b13 b3 hs2 b2 hg b1 HG hB hmb hw3 hw2
  go_wp2_with fail
  try rw [HW3.out]
  refine HCY.out.mono ?_
  rintro e w4 ⟨v, o, rfl, hr, hq, hf⟩
  obtain ⟨A7, B7, O7, C7, e7, -, -, -, -⟩ := QI.isN hq
  have HF := Lib.hid (show PP (.returned v) w4 by
    rw [← HP.out]
    exact ⟨v, o, rfl, hr, QR.le hq HW1.out, HB1.out.trans (hf.below (B := W.heap.size) (fun k hk => by have := HBB.out; omega) HW1.out)⟩)
  obtain ⟨m, hm⟩ : ∃ m, o.length = m := ⟨_, rfl⟩
  rw [hm] at e7
  subst e7
  clear hr hq hf hm
  go_wp2_with fail
  exact HF.out

end Go.Proofs.Ytlhipnklljjahaa
