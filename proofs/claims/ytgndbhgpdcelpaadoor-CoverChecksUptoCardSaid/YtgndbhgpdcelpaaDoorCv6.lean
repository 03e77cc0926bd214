/-
  Whether an instruction is right by itself, ends, locks ahead: contracts over the translation.
  Conditions: the row lies in memory.
-/
import Derived.Test.YtgndbhgpdcelpaaDoorCv5
namespace Go.Proofs.YtgndbhgpdcelpaaDoor
set_option maxRecDepth 100000
open Go.RowKit Go.Joins Go.ChangeShapes Go.WideShapes
set_option linter.unusedVariables false
set_option linter.unusedSimpArgs false

def curB (n : Int) : Bool := decide (0 ≤ n) && decide (n < 4)
def plB (n : Nat) (k : Int) : Bool := decide (0 ≤ k) && decide (k < n)
/-- has an instruction what its operator needs? -/
def fitB (n : Nat) (x : Ins) : Bool :=
  if x.op == 1 then mrg x.mode
  else if x.op == 2 then curB x.c
  else if x.op == 3 then curB x.c && plB n x.jt
  else if x.op == 4 then curB x.c && plB n x.jt && x.e.n == 1
  else if x.op == 8 then plB n x.jt
  else decide (1 ≤ x.op) && decide (x.op ≤ 12)
set_option maxHeartbeats 8000000 in
set_option maxRecDepth 100000 in
theorem fits_any (tb : ByteArray) (a : Option Addr) (n cap : Nat) (hn : n ≤ 1048576) (x : Ins) (w : World) : Calls Tryd.prog 26 #[.agg #[.string tb, .slice a n cap], x.val] w fun e w' => e = .returned (.bool (fitB n x)) ∧ Below w.heap.size w w' := by
  have HC := Lib.hid (fun W => iscur_any x.c W)
  have HP := Lib.hid (fun W => isplace_any tb a n cap x.jt W)
  have HM := Lib.hid (fun W => right_any x.mode W)
  obtain ⟨wa, hwa⟩ : ∃ wa, w.alloc (.cells #[.string tb, .slice a n cap] 37) = wa := ⟨_, rfl⟩
  obtain ⟨HBA, z0, z1, hza, hbxa⟩ := ck_box hwa
  obtain ⟨wb, hwb⟩ : ∃ wb, wa.alloc (.cells x.enc.toArray 33) = wb := ⟨_, rfl⟩
  have hbx : Bx wb wa.heap.size x.enc.toArray 33 := by rw [← hwb]; exact Bx.new _ _ _
  have hab : Below wa.heap.size wa wb := by rw [← hwb]; exact (Below.refl _ _).alloc (Nat.le_refl _) _
  have HBB := Lib.hid (btr HBA.out hab HBA.out.size)
  obtain ⟨y0, y1, -, -, -⟩ : wb.cell? ⟨w.heap.size, 0, none⟩ = some (.string tb) ∧ wb.cell? ⟨w.heap.size, 1, none⟩ = some (.slice a n cap) ∧ True ∧ True ∧ True := ⟨(hab.cell (p := ⟨w.heap.size, 0, none⟩) (by rw [hza]; exact Nat.lt_succ_self _)).trans z0, (hab.cell (p := ⟨w.heap.size, 1, none⟩) (by rw [hza]; exact Nat.lt_succ_self _)).trans z1, trivial, trivial, trivial⟩
  obtain ⟨f0, f1, f2, f3, -, -, -⟩ := n14 hbx
  have f11 : wb.cell? ⟨wa.heap.size, 11, none⟩ = some (.slice x.e.a x.e.n x.e.c) := hbx.cell rfl
  rw [show x.enc.toArray = #[.int .i64 x.op, .int .i64 x.c, .int .i64 x.jt, .int .i64 x.mode, .int .i64 x.part, .string x.tab, .int .i64 x.idx, .slice x.lo.a x.lo.n x.lo.c, .slice x.hi.a x.hi.n x.hi.c, .bool x.lx, .bool x.hx, .slice x.e.a x.e.n x.e.c, .int .i64 x.n, .slice x.ds.a x.ds.n x.ds.c] from rfl] at hwb
  have HWA := Lib.hid hza
  unfold Ins.val
  obtain ⟨F, hF⟩ : ∃ F, fitB n x = F := ⟨_, rfl⟩
  rw [hF]
  unfold fitB at hF
  have HBX := Lib.hid hbx
  obtain ⟨cb, hcb⟩ : ∃ cb, curB x.c = cb := ⟨_, rfl⟩
  obtain ⟨pb, hpb⟩ : ∃ pb, plB n x.jt = pb := ⟨_, rfl⟩
  obtain ⟨mb, hmb⟩ : ∃ mb, mrg x.mode = mb := ⟨_, rfl⟩
  rw [hcb, hpb, hmb] at hF
  rw [show (decide (0 ≤ x.c) && decide (x.c < 4)) = cb from hcb] at HC
  rw [show (decide (0 ≤ x.jt) && decide (x.jt < n)) = pb from hpb] at HP
  rw [hmb] at HM
  clear z0 z1 hza hbxa hbx hab hcb hpb hmb
  go_enter Tryd.func26, Tryd.ntmps26
  cases c1 : x.op == 1 with
  | true =>
    rw [c1] at hF
    simp only [if_true] at hF
    subst hF
    go_wp2_with fail
    refine (HM.out _).mono ?_
    rintro e w' ⟨rfl, rfl⟩
    go_wp2_with fail
    go_ret
    exact ⟨rfl, HBB.out⟩
  | false =>
    rw [c1] at hF
    cases c2 : x.op == 2 with
    | true =>
      rw [c2] at hF
      simp only [if_true, Bool.false_eq_true, if_false] at hF
      subst hF
      go_wp2_with fail
      refine (HC.out _).mono ?_
      rintro e w' ⟨rfl, rfl⟩
      go_wp2_with fail
      go_ret
      exact ⟨rfl, HBB.out⟩
    | false =>
      rw [c2] at hF
      cases c3 : x.op == 3 with
      | true =>
        rw [c3] at hF
        simp only [if_true, Bool.false_eq_true, if_false] at hF
        cases cb with
        | false =>
          subst hF
          go_wp2_with fail
          refine (HC.out _).mono ?_
          rintro e w' ⟨rfl, rfl⟩
          go_wp2_with fail
          go_ret
          exact ⟨rfl, HBB.out⟩
        | true =>
          simp only [Bool.true_and] at hF
          subst hF
          go_wp2_with fail
          refine (HC.out _).mono ?_
          rintro e w' ⟨rfl, rfl⟩
          go_wp2_with fail
          refine (HP.out _).mono ?_
          rintro e w' ⟨rfl, hb⟩
          have HB2 := Lib.hid (btr HBB.out hb HBB.out.size)
          clear hb
          go_wp2_with fail
          go_ret
          exact ⟨rfl, HB2.out⟩
      | false =>
        rw [c3] at hF
        cases c4 : x.op == 4 with
        | true =>
          rw [c4] at hF
          simp only [if_true, Bool.false_eq_true, if_false] at hF
          cases cb with
          | false =>
            simp only [Bool.false_and] at hF
            subst hF
            go_wp2_with fail
            refine (HC.out _).mono ?_
            rintro e w' ⟨rfl, rfl⟩
            go_wp2_with fail
            go_ret
            exact ⟨rfl, HBB.out⟩
          | true =>
            cases pb with
            | false =>
              simp only [Bool.true_and, Bool.false_and] at hF
              subst hF
              go_wp2_with fail
              refine (HC.out _).mono ?_
              rintro e w' ⟨rfl, rfl⟩
              go_wp2_with fail
              refine (HP.out _).mono ?_
              rintro e w' ⟨rfl, hb⟩
              have HB2 := Lib.hid (btr HBB.out hb HBB.out.size)
              clear hb
              go_wp2_with fail
              go_ret
              exact ⟨rfl, HB2.out⟩
            | true =>
              simp only [Bool.true_and] at hF
              have HF := Lib.hid hF
              clear hF
              go_wp2_with fail
              refine (HC.out _).mono ?_
              rintro e w' ⟨rfl, rfl⟩
              go_wp2_with fail
              refine (HP.out _).mono ?_
              rintro e w' ⟨rfl, hb⟩
              have HB2 := Lib.hid (btr HBB.out hb HBB.out.size)
              have g11 : w'.cell? ⟨wa.heap.size, 11, none⟩ = some (.slice x.e.a x.e.n x.e.c) := (HBX.out.below hb).cell rfl
              clear hb
              by_cases ce : x.e.n = 1
              · have e3 : ((x.e.n : Int) == 1) = true := by rw [ce]; rfl
                have HF2 := Lib.hid (show F = true by rw [← HF.out, ce]; rfl)
                go_wp2_with fail
                go_ret
                exact ⟨by rw [HF2.out]; rfl, HB2.out⟩
              · have e3 : ((x.e.n : Int) == 1) = false := by simp; omega
                have HF2 := Lib.hid (show F = false by rw [← HF.out]; simp [ce])
                go_wp2_with fail
                go_ret
                exact ⟨by rw [HF2.out]; rfl, HB2.out⟩
        | false =>
          rw [c4] at hF
          cases c5 : x.op == 8 with
          | true =>
            rw [c5] at hF
            simp only [if_true, Bool.false_eq_true, if_false] at hF
            subst hF
            go_wp2_with fail
            refine (HP.out _).mono ?_
            rintro e w' ⟨rfl, hb⟩
            have HB2 := Lib.hid (btr HBB.out hb HBB.out.size)
            clear hb
            go_wp2_with fail
            go_ret
            exact ⟨rfl, HB2.out⟩
          | false =>
            rw [c5] at hF
            simp only [Bool.false_eq_true, if_false] at hF
            have HF := Lib.hid hF
            clear hF
            by_cases d1 : 1 ≤ x.op
            · by_cases d2 : x.op ≤ 12
              all_goals
                go_wp2_with fail
                go_ret
                exact ⟨by rw [← HF.out]; simp [d1, d2], HBB.out⟩
            · go_wp2_with fail
              go_ret
              exact ⟨by rw [← HF.out]; simp [d1]; omega, HBB.out⟩
def wellB (n : Nat) (x : Ins) : Bool := kn x.mode && kn x.part && fitB n x

end Go.Proofs.YtgndbhgpdcelpaaDoor
