/-
  Whether all changing is covered; the check: contracts over the translation.
  Conditions: the row lies in memory.
-/
import Derived.Test.YtgndbhgpdcelpaaDoorCv15
namespace Go.Proofs.YtgndbhgpdcelpaaDoor
set_option maxRecDepth 100000
open Go.RowKit Go.Joins Go.ChangeShapes Go.WideShapes
set_option linter.unusedVariables false
set_option linter.unusedSimpArgs false

def cgB (tb : ByteArray) (q : List Ins) : Bool :=
  if tb.toList.isEmpty then cnL [6, 7, 9, 10] q == 0 else cvI (mdL tb q 0) 2 && glB q && pkB tb q
set_option maxHeartbeats 8000000 in
set_option maxRecDepth 100000 in
theorem changing_any (w : World) (hT : TabB w 0 cvL) (tb : ByteArray) (a : Option Addr) (cap : Nat) (q : List Ins) (h : RowA w a q) (hm : q.length ≤ 1048576) (hc : q.length ≤ cap) (hlast : ∃ x, q[q.length - 1]? = some x ∧ (x.op == 12) = true) :
    Calls Tryd.prog 19 #[.agg #[.string tb, .slice a q.length cap]] w fun e w' => e = .returned (.bool (cgB tb q)) ∧ Below w.heap.size w w' := by
  obtain ⟨W1, hW1⟩ : ∃ W1, w.alloc (.cells #[.string tb, .slice a q.length cap] 37) = W1 := ⟨_, rfl⟩
  obtain ⟨HB1, z0, z1, hz, hbx⟩ := ck_box hW1
  have HH := Lib.hid (fun (V : World) (hV : Below W1.heap.size W1 V) => (h.below HB1.out).below hV)
  have HBX := Lib.hid (fun (V : World) (hV : Below W1.heap.size W1 V) => hbx.below hV)
  have HTB := Lib.hid (fun (V : World) (hV : Below W1.heap.size W1 V) => hT.below (HB1.out.trans (hV.mono HB1.out.size)))
  obtain ⟨W2, hW2⟩ : ∃ W2, W1.alloc (.cells #[.int .i64 6, .int .i64 7, .int .i64 9, .int .i64 10] 3) = W2 := ⟨_, rfl⟩
  have hb2 : Below W1.heap.size W1 W2 := by rw [← hW2]; exact (Below.refl _ _).alloc (Nat.le_refl _) _
  have HC1 := Lib.hid (count_any W2 a cap q (HH.out W2 hb2) hm (some ⟨W1.heap.size, 0, none⟩) 4 [6, 7, 9, 10] (by rw [← hW2]; exact ints_4 W1 6 7 9 10) (by decide))
  have HMD := Lib.hid (mode_any W1 (HTB.out W1 (Below.refl _ _)) tb a cap q (HH.out W1 (Below.refl _ _)) hm tb)
  have HGU := Lib.hid (fun (V : World) (hV : Below W1.heap.size W1 V) => guards_any V tb a cap q (HH.out V hV) hm hc hlast)
  have HPI := Lib.hid (fun (V : World) (hV : Below W1.heap.size W1 V) => picking_any V (HTB.out V hV) tb a cap q (HH.out V hV) hm)
  have HB2 := Lib.hid hb2
  obtain ⟨R, hR⟩ : ∃ R, cgB tb q = R := ⟨_, rfl⟩
  rw [hR]
  unfold cgB at hR
  obtain ⟨G1, hG1⟩ : ∃ G1, cnL [6, 7, 9, 10] q = G1 := ⟨_, rfl⟩
  rw [hG1] at hR HC1
  obtain ⟨M, hM⟩ : ∃ M, mdL tb q 0 = M := ⟨_, rfl⟩
  rw [hM] at hR HMD
  obtain ⟨g, hg⟩ : ∃ g, glB q = g := ⟨_, rfl⟩
  rw [hg] at hR HGU
  obtain ⟨p, hp⟩ : ∃ p, pkB tb q = p := ⟨_, rfl⟩
  rw [hp] at hR HPI
  generalize q.length = n at *
  clear hz hbx h hb2 hG1 hT hM hg hp hlast
  go_enter Tryd.func19, Tryd.ntmps19
  cases ce : tb.toList.isEmpty with
  | true =>
    have ce1 : tb.toList = [] := by simpa using ce
    have ce2 : (tb.toList == []) = true := by rw [ce1]; rfl
    rw [ce] at hR
    simp only [if_true] at hR
    have HR := Lib.hid hR
    have CE := Lib.hid ce1
    clear hR ce1 HMD HGU HPI
    go_wp2_with fail
    refine HC1.out.mono ?_
    rintro e w3 ⟨rfl, hb3⟩
    have HBF := Lib.hid (btr HB1.out (btr HB2.out hb3 HB2.out.size) HB1.out.size)
    clear hb3 HC1
    by_cases g1 : G1 = 0
    · obtain rfl : R = true := by rw [← HR.out, g1]; rfl
      have e1 : ((G1 : Int) == 0) = true := by rw [g1]; rfl
      go_wp2_with fail
      go_ret
      exact ⟨rfl, HBF.out⟩
    · obtain rfl : R = false := by rw [← HR.out]; simp [g1]
      have e1 : ((G1 : Int) == 0) = false := by simp; omega
      go_wp2_with fail
      go_ret
      exact ⟨rfl, HBF.out⟩
  | false =>
    have ce1 : ¬ tb.toList = [] := by intro h; rw [h] at ce; cases ce
    have ce2 : (tb.toList == []) = false := by simpa using ce1
    rw [ce] at hR
    simp only [Bool.false_eq_true, if_false] at hR
    have CE := Lib.hid ce1
    clear ce1 HC1 hW2
    go_wp2_with fail
    refine HMD.out.mono ?_
    rintro e w3 ⟨rfl, hb3⟩
    have HB3 := Lib.hid hb3
    have HCV := Lib.hid (cov_any M 2 w3 (HTB.out w3 hb3))
    have y0 : w3.cell? ⟨w.heap.size, 0, none⟩ = some (.string tb) := (HBX.out w3 hb3).cell rfl
    have y1 : w3.cell? ⟨w.heap.size, 1, none⟩ = some (.slice a n cap) := (HBX.out w3 hb3).cell rfl
    have HG3 := Lib.hid (HGU.out w3 hb3)
    have HBF := Lib.hid (btr HB1.out hb3 HB1.out.size)
    obtain ⟨V, hV⟩ : ∃ V, cvI M 2 = V := ⟨_, rfl⟩
    rw [hV] at HCV hR
    clear hb3 HMD HGU hV
    go_wp2_with fail
    refine HCV.out.mono ?_
    rintro e w4 ⟨rfl, rfl⟩
    cases V with
    | false =>
      simp only [Bool.false_and] at hR
      subst hR
      go_wp2_with fail
      go_ret
      exact ⟨rfl, HBF.out⟩
    | true =>
      simp only [Bool.true_and] at hR
      have HR := Lib.hid hR
      clear hR
      go_wp2_with fail
      refine HG3.out.mono ?_
      rintro e w5 ⟨rfl, hb5⟩
      have hb15 := btr HB3.out hb5 HB3.out.size
      have v0 : w5.cell? ⟨w.heap.size, 0, none⟩ = some (.string tb) := (HBX.out w5 hb15).cell rfl
      have v1 : w5.cell? ⟨w.heap.size, 1, none⟩ = some (.slice a n cap) := (HBX.out w5 hb15).cell rfl
      have HP5 := Lib.hid (HPI.out w5 hb15)
      have HB5 := Lib.hid (btr HBF.out hb5 HBF.out.size)
      clear hb5 hb15 HG3 HPI
      cases g with
      | false =>
        obtain rfl : R = false := by rw [← HR.out]; rfl
        go_wp2_with fail
        go_ret
        exact ⟨rfl, HB5.out⟩
      | true =>
        have HR1 := Lib.hid (show p = R by rw [← HR.out]; rfl)
        go_wp2_with fail
        refine HP5.out.mono ?_
        rintro e w6 ⟨rfl, hb6⟩
        have HB6 := Lib.hid (btr HB5.out hb6 HB5.out.size)
        clear hb6
        go_wp2_with fail
        go_ret
        exact ⟨by rw [HR1.out]; rfl, HB6.out⟩
/-- the check -/
def ckB (tb : ByteArray) (q : List Ins) : Bool := enB q && q.all (wellB q.length) && fsB q && rdB q && cgB tb q
theorem en_last {q : List Ins} (h : enB q = true) : ∃ x, q[q.length - 1]? = some x ∧ (x.op == 12) = true := by
  unfold enB at h
  simp only [Bool.and_eq_true] at h
  obtain ⟨-, h⟩ := h
  cases c : q[q.length - 1]? with
  | none => rw [c] at h; cases h
  | some x => rw [c] at h; exact ⟨x, rfl, h⟩
/-- the rules' five answers -/
def rlB (tb : ByteArray) (q : List Ins) : Nat → Bool
  | 0 => enB q
  | 1 => q.all (wellB q.length)
  | 2 => fsB q
  | 3 => rdB q
  | _ => cgB tb q
theorem rl_no {tb : ByteArray} {q : List Ins} {k : Nat} (hk : k < 5) (h : rlB tb q k = false) : ckB tb q = false := by
  unfold ckB
  match k, hk with
  | 0, _ => rw [show enB q = false from h]; rfl
  | 1, _ => rw [show q.all (wellB q.length) = false from h]; simp
  | 2, _ => rw [show fsB q = false from h]; simp
  | 3, _ => rw [show rdB q = false from h]; simp
  | 4, _ => rw [show cgB tb q = false from h]; simp
theorem rl_yes {tb : ByteArray} {q : List Ins} (h : ∀ j : Nat, j < 5 → rlB tb q j = true) : ckB tb q = true := by
  unfold ckB
  rw [show enB q = true from h 0 (by decide), show q.all (wellB q.length) = true from h 1 (by decide), show fsB q = true from h 2 (by decide), show rdB q = true from h 3 (by decide), show cgB tb q = true from h 4 (by decide)]
  rfl

end Go.Proofs.YtgndbhgpdcelpaaDoor
