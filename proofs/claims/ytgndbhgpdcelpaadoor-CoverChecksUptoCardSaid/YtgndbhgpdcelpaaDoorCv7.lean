/-
  Ends, well formed, locks ahead: contracts over the translation.
  Conditions: the row lies in memory.
-/
import Derived.Test.YtgndbhgpdcelpaaDoorCv6
namespace Go.Proofs.YtgndbhgpdcelpaaDoor
set_option maxRecDepth 100000
open Go.RowKit Go.Joins Go.ChangeShapes Go.WideShapes
set_option linter.unusedVariables false
set_option linter.unusedSimpArgs false

set_option maxHeartbeats 8000000 in
set_option maxRecDepth 100000 in
theorem wellp (w : World) (g : Nat) (tb : ByteArray) (a : Option Addr) (n cap : Nat) (hn : n ≤ 1048576) (hbx : Bx w g #[.string tb, .slice a n cap] 37) : PrB 24 #[.pointer (some ⟨g, 0, none⟩)] (fun x => !wellB n x) w := by
  intro W x hW
  have hb0 := hbx.below hW
  have HFI := Lib.hid (fun (V : World) => fits_any tb a n cap hn x V)
  have HKM := Lib.hid (fun (V : World) => ismode_any x.mode V)
  have HKP := Lib.hid (fun (V : World) => ismode_any x.part V)
  obtain ⟨wb, hwb⟩ : ∃ wb, W.alloc (.cells x.enc.toArray 33) = wb := ⟨_, rfl⟩
  have hbi : Bx wb W.heap.size x.enc.toArray 33 := by rw [← hwb]; exact Bx.new _ _ _
  have hab : Below W.heap.size W wb := by rw [← hwb]; exact (Below.refl _ _).alloc (Nat.le_refl _) _
  have HBB := Lib.hid hab
  have hb1 := hb0.below hab
  have y0 : wb.cell? ⟨g, 0, none⟩ = some (.string tb) := hb1.cell rfl
  have y1 : wb.cell? ⟨g, 1, none⟩ = some (.slice a n cap) := hb1.cell rfl
  obtain ⟨-, -, -, f3, f4, -, -⟩ := n14 hbi
  have HLX := Lib.hid (ld_I (b := W.heap.size) (o := 0) (x := x) fun j v hj => by rw [Nat.zero_add]; exact hbi.cell (by simpa using hj))
  rw [show x.enc.toArray = #[.int .i64 x.op, .int .i64 x.c, .int .i64 x.jt, .int .i64 x.mode, .int .i64 x.part, .string x.tab, .int .i64 x.idx, .slice x.lo.a x.lo.n x.lo.c, .slice x.hi.a x.hi.n x.hi.c, .bool x.lx, .bool x.hx, .slice x.e.a x.e.n x.e.c, .int .i64 x.n, .slice x.ds.a x.ds.n x.ds.c] from rfl] at hwb
  show Calls Tryd.prog _ #[x.val, .pointer (some ⟨g, 0, none⟩)] W fun e w' => e = .returned (.bool (!wellB n x)) ∧ Below W.heap.size W w'
  obtain ⟨F, hF⟩ : ∃ F, (!wellB n x) = F := ⟨_, rfl⟩
  rw [hF]
  unfold wellB at hF
  obtain ⟨fb, hfb⟩ : ∃ fb, fitB n x = fb := ⟨_, rfl⟩
  rw [hfb] at HFI hF
  obtain ⟨X, hX⟩ : ∃ X, x.val = X := ⟨_, rfl⟩
  rw [hX] at HFI HLX
  unfold Ins.val
  clear hX hbi hab hb0 hb1 hfb hbx
  go_enter Tryd.func24, Tryd.ntmps24
  cases c1 : kn x.mode with
  | false =>
    rw [c1] at HKM hF
    simp only [Bool.false_and, Bool.not_false] at hF
    subst hF
    go_wp2_with fail
    refine (HKM.out _).mono ?_
    rintro e w' ⟨rfl, rfl⟩
    go_wp2_with fail
    go_ret
    exact ⟨rfl, HBB.out⟩
  | true =>
    rw [c1] at HKM hF
    cases c2 : kn x.part with
    | false =>
      rw [c2] at HKP hF
      simp only [Bool.true_and, Bool.false_and, Bool.not_false] at hF
      subst hF
      go_wp2_with fail
      refine (HKM.out _).mono ?_
      rintro e w' ⟨rfl, rfl⟩
      go_wp2_with fail
      refine (HKP.out _).mono ?_
      rintro e w' ⟨rfl, rfl⟩
      go_wp2_with fail
      go_ret
      exact ⟨rfl, HBB.out⟩
    | true =>
      rw [c2] at HKP hF
      simp only [Bool.true_and] at hF
      subst hF
      go_wp2_with fail
      refine (HKM.out _).mono ?_
      rintro e w' ⟨rfl, rfl⟩
      go_wp2_with fail
      refine (HKP.out _).mono ?_
      rintro e w' ⟨rfl, rfl⟩
      go_wp2_with (refine wpLdG (by go_simp) _ rfl rfl HLX.out ?_; clear HLX)
      refine (HFI.out _).mono ?_
      rintro e w' ⟨rfl, hb⟩
      have HB2 := Lib.hid (btr HBB.out hb HBB.out.size)
      clear hb
      go_wp2_with fail
      go_ret
      exact ⟨rfl, HB2.out⟩
/-- is each instruction right by itself? -/
theorem well_any (w : World) (tb : ByteArray) (a : Option Addr) (cap : Nat) (q : List Ins) (h : RowA w a q) (hm : q.length ≤ 1048576) :
    Calls Tryd.prog 16 #[.agg #[.string tb, .slice a q.length cap]] w fun e w' => e = .returned (.bool (q.all (wellB q.length))) ∧ Below w.heap.size w w' := by
  obtain ⟨W1, hW1⟩ : ∃ W1, w.alloc (.cells #[.string tb, .slice a q.length cap] 37) = W1 := ⟨_, rfl⟩
  obtain ⟨HB1, z0, z1, hz, hbx⟩ := ck_box hW1
  have HC := Lib.hid (contf_any W1 a cap q (h.below HB1.out) (by omega) _ _ _ (wellp W1 w.heap.size tb a q.length cap hm hbx) (enters_of Tryd.func24 (by kernel_rfl) rfl))
  rw [show (q.any fun x => !wellB q.length x) = !q.all (wellB q.length) by rw [List.not_all_eq_any_not]] at HC
  generalize q.all (wellB q.length) = R at HC ⊢
  clear hz hbx h
  generalize q.length = n at *
  go_enter Tryd.func16, Tryd.ntmps16
  go_wp2_with fail
  refine HC.out.mono ?_
  rintro e w' ⟨rfl, hb⟩
  have HB2 := Lib.hid (btr HB1.out hb HB1.out.size)
  clear hb
  go_wp2_with fail
  go_ret
  exact ⟨by simp, HB2.out⟩

end Go.Proofs.YtgndbhgpdcelpaaDoor
