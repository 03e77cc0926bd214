/-
  Contract over the translation: the document's operator on values (haspref03.Do), for any list of operands.
  Conditions: the operands' numbers are of 64 bits, their texts have at most 200 bytes.
-/
import Derived.Test.YtceingfjdkpolaaAri14
import Derived.Test.YtceingfjdkpolaaAri15
namespace Go.Proofs.Ytceingfjdkpolaa
open Go.RowKit Go.Joins Go.ChangeShapes Go.WideShapes
set_option linter.unusedVariables false

theorem kp_rd (w : World) : Rg w.heap.size w ((w.alloc (Vx 0 0 E0)).alloc (Vx 0 0 E0)) (Vc w.heap.size 0 0 E0 ++ Vc (w.heap.size + 1) 0 0 E0) := by
  refine ⟨((Below.refl _ _).alloc (Nat.le_refl _) _).alloc (by simp) _, by simp; omega, ?_⟩
  unfold Kp
  simp only [List.cons_append, List.nil_append, List.forall_mem_cons, List.not_mem_nil, false_implies, implies_true, and_true]
  go_simp

abbrev Rd4 (g h i j : Nat) (ka na : Int) (sa : ByteArray) (kb nb : Int) (sb : ByteArray) : List (Nat × Nat × Value) := Vc g 0 0 E0 ++ (Vc h 0 0 E0 ++ (Vc i ka na sa ++ Vc j kb nb sb))
theorem rd4 {B g h i j : Nat} {w wb wx : World} {ka na : Int} {sa : ByteArray} {kb nb : Int} {sb : ByteArray} (k0 : Rg B w wb (Vc g 0 0 E0 ++ Vc h 0 0 E0)) (hr : Rg wb.heap.size wb wx (Vc i ka na sa ++ Vc j kb nb sb)) :
    Rg B w wx (Rd4 g h i j ka na sa kb nb sb) := by
  refine ⟨k0.bel.trans (hr.bel.mono k0.2.1), Nat.le_trans k0.2.1 hr.2.1, fun x hx => ?_⟩
  have k1 := k0.kp.below hr.bel
  simp only [List.mem_append] at hx
  rcases hx with hx | hx | hx
  · exact k1 x (List.mem_append_left _ hx)
  · exact k1 x (List.mem_append_right _ hx)
  · exact hr.kp x (List.mem_append.2 hx)
theorem rd_in {B g h i j : Nat} {w wx : World} {ka na : Int} {sa : ByteArray} {kb nb : Int} {sb : ByteArray} (r : Rg B w wx (Rd4 g h i j ka na sa kb nb sb)) :
    ((wx.cell? ⟨g, 0, none⟩ = some (.int .i64 0) ∧ wx.frozen? ⟨g, 0, none⟩ = false) ∧ (wx.cell? ⟨g, 1, none⟩ = some (.int .i64 0) ∧ wx.frozen? ⟨g, 1, none⟩ = false) ∧ (wx.cell? ⟨g, 2, none⟩ = some (.string E0) ∧ wx.frozen? ⟨g, 2, none⟩ = false)) ∧
    (wx.cell? ⟨h, 0, none⟩ = some (.int .i64 0) ∧ wx.cell? ⟨h, 1, none⟩ = some (.int .i64 0) ∧ wx.cell? ⟨h, 2, none⟩ = some (.string E0)) ∧
    (wx.cell? ⟨i, 0, none⟩ = some (.int .i64 ka) ∧ wx.cell? ⟨i, 1, none⟩ = some (.int .i64 na) ∧ wx.cell? ⟨i, 2, none⟩ = some (.string sa)) ∧
    (wx.cell? ⟨j, 0, none⟩ = some (.int .i64 kb) ∧ wx.cell? ⟨j, 1, none⟩ = some (.int .i64 nb) ∧ wx.cell? ⟨j, 2, none⟩ = some (.string sb)) :=
  have r1 := r.kp
  have r2 := r1.tl.tl.tl
  have r3 := r2.tl.tl.tl
  have r4 := r3.tl.tl.tl
  ⟨⟨r1.hd, r1.tl.hd, r1.tl.tl.hd⟩, ⟨r2.hd.1, r2.tl.hd.1, r2.tl.tl.hd.1⟩, ⟨r3.hd.1, r3.tl.hd.1, r3.tl.tl.hd.1⟩, ⟨r4.hd.1, r4.tl.hd.1, r4.tl.tl.hd.1⟩⟩

theorem refdo_bad (op : Int) (A : Option Addr) (m cap : Nat) (hm : m ≤ maxLen) (h : cntV op = 0 ∨ cntV op ≠ m) (w : World) :
    Calls Try.prog 13 #[.int .i64 op, .slice A m cap] w fun e w' => e = .returned (Out 0 0 E0 30) ∧ Below w.heap.size w w' := by
  unfold maxLen at hm
  have ho := refcount_any op
  generalize cntV op = c at *
  have HO := Lib.hid ho
  clear ho
  by_cases h0 : c = 0
  · subst h0
    clear h
    go_enter Try.func13, Try.ntmps13
    go_upto_region 2 with fail
    have k0 := kp_rd w
    generalize (w.alloc (Vx 0 0 E0)).alloc (Vx 0 0 E0) = wb at *
    have r1 := k0.kp
    obtain ⟨⟨z0, y0⟩, ⟨z1, y1⟩, ⟨z2, y2⟩⟩ := And.intro r1.hd (And.intro r1.tl.hd r1.tl.tl.hd)
    have n0 := r1.tl.tl.tl.hd.1
    have n1 := r1.tl.tl.tl.tl.hd.1
    have n2 := r1.tl.tl.tl.tl.tl.hd.1
    have KK := Lib.hid k0
    clear r1 k0
    go_wp2_with (go_at_call 22; refine (HO.out _).mono ?_; rintro e w' ⟨rfl, rfl⟩)
    exact bodyPost_ret (v := Out 0 0 E0 30) (by simp [results, Try.results13, go_sem, z0, z1, z2]) rfl ⟨rfl, rg_out 0 0 E0 KK.out (Nat.le_refl _)⟩
  · have e0 : ((c : Int) == 0) = false := by simpa using h0
    have e0' : ¬ (c : Int) = 0 := by omega
    have e1 : ((c : Int) != (m : Int)) = true := by simp; omega
    have e1' : ¬ (c : Int) = (m : Int) := by omega
    have e2 : (c == 0) = false := by simpa using h0
    have e3 : (c != m) = true := by simp; omega
    clear h h0
    go_enter Try.func13, Try.ntmps13
    go_upto_region 2 with fail
    have k0 := kp_rd w
    generalize (w.alloc (Vx 0 0 E0)).alloc (Vx 0 0 E0) = wb at *
    have r1 := k0.kp
    obtain ⟨⟨z0, y0⟩, ⟨z1, y1⟩, ⟨z2, y2⟩⟩ := And.intro r1.hd (And.intro r1.tl.hd r1.tl.tl.hd)
    have n0 := r1.tl.tl.tl.hd.1
    have n1 := r1.tl.tl.tl.tl.hd.1
    have n2 := r1.tl.tl.tl.tl.tl.hd.1
    have KK := Lib.hid k0
    clear r1 k0
    go_wp2_with (go_at_call 22; refine (HO.out _).mono ?_; rintro e w' ⟨rfl, rfl⟩)
    exact bodyPost_ret (v := Out 0 0 E0 30) (by simp [results, Try.results13, go_sem, z0, z1, z2]) rfl ⟨rfl, rg_out 0 0 E0 KK.out (Nat.le_refl _)⟩

/-- the number that an operator gives, by cases -/
def NmC (op ka na nb T n e : Int) : Prop :=
  (op = 14 ∧ ka = 3 ∧ n = (if tbad (ub na) then 0 else TW (ub na)) ∧ e = (if tbad (ub na) then 10 else 0)) ∨ (op = 14 ∧ (ka == 3) = false ∧ n = na ∧ e = 0) ∨ (op = 15 ∧ ka = 2 ∧ n = ROfInt na ∧ e = 0) ∨ (op = 15 ∧ (ka == 2) = false ∧ n = na ∧ e = 0) ∨
  ((op == 14) = false ∧ (op == 15) = false ∧ T = 2 ∧ OpsI op ∧ n = (wholeV op na nb).1 ∧ e = (wholeV op na nb).2) ∨ ((op == 14) = false ∧ (op == 15) = false ∧ (T == 2) = false ∧ OpsR op ∧ n = pointV op na nb ∧ e = 0)

def RdO (op ka na : Int) (sa : ByteArray) (kb nb : Int) (sb : ByteArray) (T : Int) (R : Int × Int × ByteArray × Int) : Prop :=
  (ka = 0 ∧ R = (0, 0, E0, 0)) ∨ ((ka == 0) = false ∧ kb = 0 ∧ R = (0, 0, E0, 0)) ∨ ((ka == 0) = false ∧ (kb == 0) = false ∧ (ka != kb) = true ∧ R = (0, 0, E0, 30)) ∨
  ((ka == 0) = false ∧ kb = ka ∧ T = 0 ∧ R = (0, 0, E0, 30)) ∨ ((ka == 0) = false ∧ kb = ka ∧ (T == 0) = false ∧ op = 12 ∧ 200 < sa.size + sb.size ∧ R = (0, 0, E0, 1)) ∨
  ((ka == 0) = false ∧ kb = ka ∧ (T == 0) = false ∧ op = 12 ∧ sa.size + sb.size ≤ 200 ∧ R = (4, 0, sa ++ sb, 0)) ∨
  ((ka == 0) = false ∧ kb = ka ∧ (T == 0) = false ∧ (op == 12) = false ∧ ∃ n e, NmC op ka na nb T n e ∧ (((e != 0) = true ∧ R = (0, 0, E0, e)) ∨ (e = 0 ∧ R = (T, n, E0, 0))))

set_option maxHeartbeats 8000000 in
set_option maxRecDepth 100000 in
theorem refdo_1 (op : Int) (b off cap : Nat) (ka na : Int) (sa : ByteArray) (w : World) (hb : b < w.heap.size) (h0 : Opd w b off ka na sa) (hc : cntV op = 1) (hi : InI na) (hi' : InI na) (hsa : sa.size ≤ 200) (hsb : sa.size ≤ 200)
    (T : Int) (hT : oneV op ka = T) (R : Int × Int × ByteArray × Int) (hR : RdO op ka na sa ka na sa T R) :
    Calls Try.prog 13 #[.int .i64 op, .slice (some ⟨b, off, none⟩) 1 cap] w fun e w' => e = .returned (Out R.1 R.2.1 R.2.2.1 R.2.2.2) ∧ Below w.heap.size w w' := by
  have hop : 7 ≤ op ∧ op ≤ 15 := by rcases cnt_le op with h | h | h <;> omega
  have ho := refcount_any op
  rw [hc] at ho
  have hf := refone_any op ka hop
  rw [hT] at hf
  have HO := Lib.hid ho
  have HF := Lib.hid hf
  have HR := Lib.hid hR
  have HW := Lib.hid (fun (ho : OpsI op) => refwhole_any op na na ho hi hi')
  have HP := Lib.hid (fun (ho : OpsR op) => refpoint_any op na na ho)
  have HV := Lib.hid (refofint_any na hi)
  have HU := Lib.hid (reftoint_any na)
  have HB := Lib.hid hb
  have H0 := Lib.hid h0
  have H1 := Lib.hid h0
  have HS := Lib.hid (And.intro hsa hsb)
  have wr : IntKind.i64.wrap 0 = 0 := by decide
  clear hop ho hf hT hc hi hi' hb h0 hR hsa hsb
  go_enter Try.func13, Try.ntmps13
  go_upto_region 2 with fail
  have k0 := kp_rd w
  generalize (w.alloc (Vx 0 0 E0)).alloc (Vx 0 0 E0) = wb at *
  have hbb : b < wb.heap.size := Nat.lt_of_lt_of_le HB.out k0.2.1
  have q0 := opd_on HB.out H0.out k0.bel
  have q1 := opd_on HB.out H1.out k0.bel
  have hk := Lib.hid (fun w' (hw : Below wb.heap.size wb w') => opd_below hbb q0 q0 hw)
  have hs := opd_below hbb q0 q0 (Below.refl _ _)
  have K0 := Lib.hid k0
  clear q0 q1 k0 H0 H1
  go_upto_region 4 with (first | (go_at_call 22; refine (HO.out _).mono ?_; rintro e w' ⟨rfl, rfl⟩))
  go_cut [7, 8] (fun p q wx => ∃ g g' : Nat, p = .pointer (some ⟨g, 0, none⟩) ∧ q = .pointer (some ⟨g', 0, none⟩) ∧ Rg wb.heap.size wb wx (Vc g ka na sa ++ Vc g' ka na sa))
  case first =>
    clear HF HR HW HP HV HU HS K0
    go_region_held3 (fun w' => Below wb.heap.size wb w' ∧ w'.cell? ⟨b, off, none⟩ = some (.int .i64 ka) ∧ w'.cell? ⟨b, off + 1, none⟩ = some (.int .i64 na) ∧ w'.cell? ⟨b, off + 2, none⟩ = some (.string sa) ∧
      w'.cell? ⟨b, off, none⟩ = some (.int .i64 ka) ∧ w'.cell? ⟨b, off + 1, none⟩ = some (.int .i64 na) ∧ w'.cell? ⟨b, off + 2, none⟩ = some (.string sa))
      (first
        | (go_split_ands; exact hk.out _ (by assumption))
        | (exact hk.out _ (zero_b _))
        | (exact hk.out _ (one_b _ _))
        | (exact hk.out _ (two_b _ _ _)))
      (fail)
    all_goals
      go_wp2_with fail
      go_meet
      first
        | exact ⟨_, _, rfl, rfl, rg_ab ka na sa ka na sa wb⟩
        | exact ⟨_, _, rfl, rfl, rg_ba ka na sa ka na sa wb⟩
  case rest =>
    obtain ⟨g, g', rfl, rfl, hr⟩ := hcut
    have HRR := Lib.hid (rd4 K0.out hr)
    obtain ⟨⟨⟨z0, y0⟩, ⟨z1, y1⟩, ⟨z2, y2⟩⟩, ⟨n0, n1, n2⟩, ⟨a0, a1, a2⟩, ⟨b0, b1, b2⟩⟩ := rd_in HRR.out
    clear hs wr hk hr K0 HO HB hbb
    have hR := HR.out
    unfold RdO NmC at hR
    clear HR
    rcases hR with ⟨rfl, rfl⟩ | ⟨e0, kz, rfl⟩ | ⟨e0, e1, e2, rfl⟩ | ⟨e0, -, rfl, rfl⟩ | ⟨e0, -, e3, rfl, hl, rfl⟩ | ⟨e0, -, e3, rfl, hl, rfl⟩ | ⟨e0, -, e3, e4, n, e, hn, hres⟩
    · go_wp2_with (first | (go_at_call 23; refine (HF.out _).mono ?_; rintro e w' ⟨rfl, rfl⟩))
      exact bodyPost_ret (v := Out 0 0 E0 0) (by simp [results, Try.results13, go_sem, z0, z1, z2]) rfl ⟨rfl, rg_out 0 0 E0 HRR.out (Nat.le_refl _)⟩
    · subst kz
      exact absurd e0 (by decide)
    · exact absurd e2 (by simp)
    · have ee : ((ka : Int) != ka) = false := by simp
      go_wp2_with (first | (go_at_call 23; refine (HF.out _).mono ?_; rintro e w' ⟨rfl, rfl⟩))
      exact bodyPost_ret (v := Out 0 0 E0 30) (by simp [results, Try.results13, go_sem, z0, z1, z2]) rfl ⟨rfl, rg_out 0 0 E0 HRR.out (Nat.le_refl _)⟩
    · obtain ⟨h1, h2⟩ := HS.out
      have e5 : 200 < (sa.size : Int) + (sa.size : Int) := by omega
      have e6 : IntKind.i64.wrap ((sa.size : Int) + (sa.size : Int)) = (sa.size : Int) + (sa.size : Int) := by rw [IntKind.wrap_i64]; omega
      clear h1 h2 hl
      go_wp2_with (first | (go_at_call 23; refine (HF.out _).mono ?_; rintro e w' ⟨rfl, rfl⟩))
      exact bodyPost_ret (v := Out 0 0 E0 1) (by simp [results, Try.results13, go_sem, z0, z1, z2]) rfl ⟨rfl, rg_out 0 0 E0 HRR.out (Nat.le_refl _)⟩
    · obtain ⟨h1, h2⟩ := HS.out
      have e5 : decide (200 < (sa.size : Int) + (sa.size : Int)) = false := by simp; omega
      have e7 : ¬ (9223372036854775807 < sa.size + sa.size) := by omega
      have e8 : sa.size + sa.size ≤ 9223372036854775807 := by omega
      have e6 : IntKind.i64.wrap ((sa.size : Int) + (sa.size : Int)) = (sa.size : Int) + (sa.size : Int) := by rw [IntKind.wrap_i64]; omega
      clear h1 h2 hl
      go_wp2_with (first | (go_at_call 23; refine (HF.out _).mono ?_; rintro e w' ⟨rfl, rfl⟩))
      exact bodyPost_ret (v := Out 4 0 (sa ++ sa) 0) (by simp [results, Try.results13, go_sem, z0, z1, z2]) rfl ⟨rfl, rg_out 4 0 (sa ++ sa) HRR.out (Nat.le_refl _)⟩
    · rcases hn with ⟨rfl, rfl, rfl, rfl⟩ | ⟨rfl, e5, rfl, rfl⟩ | ⟨rfl, rfl, rfl, rfl⟩ | ⟨rfl, e5, rfl, rfl⟩ | ⟨e5, e6, rfl, ops, en, ee⟩ | ⟨e5, e6, e7, ops, rfl, rfl⟩
      · have hu := HU.out
        generalize (if tbad (ub na) then (0 : Int) else TW (ub na)) = n at *
        generalize (if tbad (ub na) then (10 : Int) else 0) = e at *
        have HU2 := Lib.hid hu
        clear hu HU HW HP HV
        go_wp2_with (first | (go_at_call 23; refine (HF.out _).mono ?_; rintro e w' ⟨rfl, rfl⟩))
        refine (HU2.out _).mono ?_
        rintro x w2 ⟨rfl, rfl⟩
        rcases hres with ⟨q, rfl⟩ | ⟨rfl, rfl⟩
        · go_wp2_with (first | (go_at_call 23; refine (HF.out _).mono ?_; rintro e w' ⟨rfl, rfl⟩))
          exact bodyPost_ret (v := Out 0 0 E0 e) (by simp [results, Try.results13, go_sem, z0, z1, z2]) rfl ⟨rfl, rg_out 0 0 E0 HRR.out (Nat.le_refl _)⟩
        · go_wp2_with (first | (go_at_call 23; refine (HF.out _).mono ?_; rintro e w' ⟨rfl, rfl⟩))
          exact bodyPost_ret (v := Out T n E0 0) (by simp [results, Try.results13, go_sem, z0, z1, z2]) rfl ⟨rfl, rg_out T n E0 HRR.out (Nat.le_refl _)⟩
      · clear HU HW HP HV
        rcases hres with ⟨q, rfl⟩ | ⟨-, rfl⟩
        · exact absurd q (by decide)
        · go_wp2_with (first | (go_at_call 23; refine (HF.out _).mono ?_; rintro e w' ⟨rfl, rfl⟩))
          exact bodyPost_ret (v := Out T n E0 0) (by simp [results, Try.results13, go_sem, z0, z1, z2]) rfl ⟨rfl, rg_out T n E0 HRR.out (Nat.le_refl _)⟩
      · have hu := HV.out
        generalize ROfInt na = n at *
        have HU2 := Lib.hid hu
        clear hu HU HW HP HV
        rcases hres with ⟨q, rfl⟩ | ⟨-, rfl⟩
        · exact absurd q (by decide)
        · go_wp2_with (first | (go_at_call 23; refine (HF.out _).mono ?_; rintro e w' ⟨rfl, rfl⟩))
          refine (HU2.out _).mono ?_
          rintro x w2 ⟨rfl, rfl⟩
          go_wp2
          exact bodyPost_ret (v := Out T n E0 0) (by simp [results, Try.results13, go_sem, z0, z1, z2]) rfl ⟨rfl, rg_out T n E0 HRR.out (Nat.le_refl _)⟩
      · clear HU HW HP HV
        rcases hres with ⟨q, rfl⟩ | ⟨-, rfl⟩
        · exact absurd q (by decide)
        · go_wp2_with (first | (go_at_call 23; refine (HF.out _).mono ?_; rintro e w' ⟨rfl, rfl⟩))
          exact bodyPost_ret (v := Out T n E0 0) (by simp [results, Try.results13, go_sem, z0, z1, z2]) rfl ⟨rfl, rg_out T n E0 HRR.out (Nat.le_refl _)⟩
      · have hu := HW.out ops
        rw [← en, ← ee] at hu
        have HU2 := Lib.hid hu
        clear hu HU HW HP HV en ee ops
        go_wp2_with (first | (go_at_call 23; refine (HF.out _).mono ?_; rintro e w' ⟨rfl, rfl⟩))
        refine (HU2.out _).mono ?_
        rintro x w2 ⟨rfl, rfl⟩
        rcases hres with ⟨q, rfl⟩ | ⟨rfl, rfl⟩
        · go_wp2_with (first | (go_at_call 23; refine (HF.out _).mono ?_; rintro e w' ⟨rfl, rfl⟩))
          exact bodyPost_ret (v := Out 0 0 E0 e) (by simp [results, Try.results13, go_sem, z0, z1, z2]) rfl ⟨rfl, rg_out 0 0 E0 HRR.out (Nat.le_refl _)⟩
        · go_wp2_with (first | (go_at_call 23; refine (HF.out _).mono ?_; rintro e w' ⟨rfl, rfl⟩))
          exact bodyPost_ret (v := Out 2 n E0 0) (by simp [results, Try.results13, go_sem, z0, z1, z2]) rfl ⟨rfl, rg_out 2 n E0 HRR.out (Nat.le_refl _)⟩
      · have hu := HP.out ops
        generalize pointV op na na = n at *
        have HU2 := Lib.hid hu
        clear hu HU HW HP HV ops
        rcases hres with ⟨q, rfl⟩ | ⟨-, rfl⟩
        · exact absurd q (by decide)
        · go_wp2_with (first | (go_at_call 23; refine (HF.out _).mono ?_; rintro e w' ⟨rfl, rfl⟩))
          refine (HU2.out _).mono ?_
          rintro x w2 ⟨rfl, n5, rfl⟩
          have r5 := HRR.out.step (w1 := wc.drewN n5) ⟨rfl, rfl, rfl, Nat.le_refl _, fun _ _ => rfl⟩
          clear z0 y0 z1 y1 z2 y2 n0 n1 n2 a0 a1 a2 b0 b1 b2
          obtain ⟨⟨⟨z0, y0⟩, ⟨z1, y1⟩, ⟨z2, y2⟩⟩, -, -, -⟩ := rd_in r5
          have HRS := Lib.hid r5
          clear r5
          go_wp2
          exact bodyPost_ret (v := Out T n E0 0) (by simp [results, Try.results13, go_sem, z0, z1, z2]) rfl ⟨rfl, rg_out T n E0 HRS.out (Nat.le_refl _)⟩

set_option maxHeartbeats 8000000 in
set_option maxRecDepth 100000 in
theorem refdo_2 (op : Int) (b off cap : Nat) (ka na : Int) (sa : ByteArray) (kb nb : Int) (sb : ByteArray) (w : World) (hb : b < w.heap.size) (h0 : Opd w b off ka na sa) (h1 : Opd w b (off + 3) kb nb sb) (hc : cntV op = 2) (hi : InI na) (hi' : InI nb) (hsa : sa.size ≤ 200) (hsb : sb.size ≤ 200)
    (T : Int) (hT : oneV op ka = T) (R : Int × Int × ByteArray × Int) (hR : RdO op ka na sa kb nb sb T R) :
    Calls Try.prog 13 #[.int .i64 op, .slice (some ⟨b, off, none⟩) 2 cap] w fun e w' => e = .returned (Out R.1 R.2.1 R.2.2.1 R.2.2.2) ∧ Below w.heap.size w w' := by
  have hop : 7 ≤ op ∧ op ≤ 15 := by rcases cnt_le op with h | h | h <;> omega
  have ho := refcount_any op
  rw [hc] at ho
  have hf := refone_any op ka hop
  rw [hT] at hf
  have HO := Lib.hid ho
  have HF := Lib.hid hf
  have HR := Lib.hid hR
  have HW := Lib.hid (fun (ho : OpsI op) => refwhole_any op na nb ho hi hi')
  have HP := Lib.hid (fun (ho : OpsR op) => refpoint_any op na nb ho)
  have HV := Lib.hid (refofint_any na hi)
  have HU := Lib.hid (reftoint_any na)
  have HB := Lib.hid hb
  have H0 := Lib.hid h0
  have H1 := Lib.hid h1
  have HS := Lib.hid (And.intro hsa hsb)
  have wr : IntKind.i64.wrap 1 = 1 := by decide
  clear hop ho hf hT hc hi hi' hb h0 h1 hR hsa hsb
  go_enter Try.func13, Try.ntmps13
  go_upto_region 2 with fail
  have k0 := kp_rd w
  generalize (w.alloc (Vx 0 0 E0)).alloc (Vx 0 0 E0) = wb at *
  have hbb : b < wb.heap.size := Nat.lt_of_lt_of_le HB.out k0.2.1
  have q0 := opd_on HB.out H0.out k0.bel
  have q1 := opd_on HB.out H1.out k0.bel
  have hk := Lib.hid (fun w' (hw : Below wb.heap.size wb w') => opd_below hbb q0 q1 hw)
  have hs := opd_below hbb q0 q1 (Below.refl _ _)
  have K0 := Lib.hid k0
  clear q0 q1 k0 H0 H1
  go_upto_region 4 with (first | (go_at_call 22; refine (HO.out _).mono ?_; rintro e w' ⟨rfl, rfl⟩))
  go_cut [7, 8] (fun p q wx => ∃ g g' : Nat, p = .pointer (some ⟨g, 0, none⟩) ∧ q = .pointer (some ⟨g', 0, none⟩) ∧ Rg wb.heap.size wb wx (Vc g ka na sa ++ Vc g' kb nb sb))
  case first =>
    clear HF HR HW HP HV HU HS K0
    go_region_held3 (fun w' => Below wb.heap.size wb w' ∧ w'.cell? ⟨b, off, none⟩ = some (.int .i64 ka) ∧ w'.cell? ⟨b, off + 1, none⟩ = some (.int .i64 na) ∧ w'.cell? ⟨b, off + 2, none⟩ = some (.string sa) ∧
      w'.cell? ⟨b, off + 3, none⟩ = some (.int .i64 kb) ∧ w'.cell? ⟨b, off + 3 + 1, none⟩ = some (.int .i64 nb) ∧ w'.cell? ⟨b, off + 3 + 2, none⟩ = some (.string sb))
      (first
        | (go_split_ands; exact hk.out _ (by assumption))
        | (exact hk.out _ (zero_b _))
        | (exact hk.out _ (one_b _ _))
        | (exact hk.out _ (two_b _ _ _)))
      (fail)
    all_goals
      go_wp2_with fail
      go_meet
      first
        | exact ⟨_, _, rfl, rfl, rg_ab ka na sa kb nb sb wb⟩
        | exact ⟨_, _, rfl, rfl, rg_ba ka na sa kb nb sb wb⟩
  case rest =>
    obtain ⟨g, g', rfl, rfl, hr⟩ := hcut
    have HRR := Lib.hid (rd4 K0.out hr)
    obtain ⟨⟨⟨z0, y0⟩, ⟨z1, y1⟩, ⟨z2, y2⟩⟩, ⟨n0, n1, n2⟩, ⟨a0, a1, a2⟩, ⟨b0, b1, b2⟩⟩ := rd_in HRR.out
    clear hs wr hk hr K0 HO HB hbb
    have hR := HR.out
    unfold RdO NmC at hR
    clear HR
    rcases hR with ⟨rfl, rfl⟩ | ⟨e0, rfl, rfl⟩ | ⟨e0, e1, e2, rfl⟩ | ⟨e0, rfl, rfl, rfl⟩ | ⟨e0, rfl, e3, rfl, hl, rfl⟩ | ⟨e0, rfl, e3, rfl, hl, rfl⟩ | ⟨e0, rfl, e3, e4, n, e, hn, hres⟩
    · go_wp2_with (first | (go_at_call 23; refine (HF.out _).mono ?_; rintro e w' ⟨rfl, rfl⟩))
      exact bodyPost_ret (v := Out 0 0 E0 0) (by simp [results, Try.results13, go_sem, z0, z1, z2]) rfl ⟨rfl, rg_out 0 0 E0 HRR.out (Nat.le_refl _)⟩
    · go_wp2_with (first | (go_at_call 23; refine (HF.out _).mono ?_; rintro e w' ⟨rfl, rfl⟩))
      exact bodyPost_ret (v := Out 0 0 E0 0) (by simp [results, Try.results13, go_sem, z0, z1, z2]) rfl ⟨rfl, rg_out 0 0 E0 HRR.out (Nat.le_refl _)⟩
    · go_wp2_with (first | (go_at_call 23; refine (HF.out _).mono ?_; rintro e w' ⟨rfl, rfl⟩))
      exact bodyPost_ret (v := Out 0 0 E0 30) (by simp [results, Try.results13, go_sem, z0, z1, z2]) rfl ⟨rfl, rg_out 0 0 E0 HRR.out (Nat.le_refl _)⟩
    · have ee : ((kb : Int) != kb) = false := by simp
      go_wp2_with (first | (go_at_call 23; refine (HF.out _).mono ?_; rintro e w' ⟨rfl, rfl⟩))
      exact bodyPost_ret (v := Out 0 0 E0 30) (by simp [results, Try.results13, go_sem, z0, z1, z2]) rfl ⟨rfl, rg_out 0 0 E0 HRR.out (Nat.le_refl _)⟩
    · obtain ⟨h1, h2⟩ := HS.out
      have e5 : 200 < (sa.size : Int) + (sb.size : Int) := by omega
      have e6 : IntKind.i64.wrap ((sa.size : Int) + (sb.size : Int)) = (sa.size : Int) + (sb.size : Int) := by rw [IntKind.wrap_i64]; omega
      clear h1 h2 hl
      go_wp2_with (first | (go_at_call 23; refine (HF.out _).mono ?_; rintro e w' ⟨rfl, rfl⟩))
      exact bodyPost_ret (v := Out 0 0 E0 1) (by simp [results, Try.results13, go_sem, z0, z1, z2]) rfl ⟨rfl, rg_out 0 0 E0 HRR.out (Nat.le_refl _)⟩
    · obtain ⟨h1, h2⟩ := HS.out
      have e5 : decide (200 < (sa.size : Int) + (sb.size : Int)) = false := by simp; omega
      have e7 : ¬ (9223372036854775807 < sa.size + sb.size) := by omega
      have e8 : sa.size + sb.size ≤ 9223372036854775807 := by omega
      have e6 : IntKind.i64.wrap ((sa.size : Int) + (sb.size : Int)) = (sa.size : Int) + (sb.size : Int) := by rw [IntKind.wrap_i64]; omega
      clear h1 h2 hl
      go_wp2_with (first | (go_at_call 23; refine (HF.out _).mono ?_; rintro e w' ⟨rfl, rfl⟩))
      exact bodyPost_ret (v := Out 4 0 (sa ++ sb) 0) (by simp [results, Try.results13, go_sem, z0, z1, z2]) rfl ⟨rfl, rg_out 4 0 (sa ++ sb) HRR.out (Nat.le_refl _)⟩
    · rcases hn with ⟨rfl, rfl, rfl, rfl⟩ | ⟨rfl, e5, rfl, rfl⟩ | ⟨rfl, rfl, rfl, rfl⟩ | ⟨rfl, e5, rfl, rfl⟩ | ⟨e5, e6, rfl, ops, en, ee⟩ | ⟨e5, e6, e7, ops, rfl, rfl⟩
      · have hu := HU.out
        generalize (if tbad (ub na) then (0 : Int) else TW (ub na)) = n at *
        generalize (if tbad (ub na) then (10 : Int) else 0) = e at *
        have HU2 := Lib.hid hu
        clear hu HU HW HP HV
        go_wp2_with (first | (go_at_call 23; refine (HF.out _).mono ?_; rintro e w' ⟨rfl, rfl⟩))
        refine (HU2.out _).mono ?_
        rintro x w2 ⟨rfl, rfl⟩
        rcases hres with ⟨q, rfl⟩ | ⟨rfl, rfl⟩
        · go_wp2_with (first | (go_at_call 23; refine (HF.out _).mono ?_; rintro e w' ⟨rfl, rfl⟩))
          exact bodyPost_ret (v := Out 0 0 E0 e) (by simp [results, Try.results13, go_sem, z0, z1, z2]) rfl ⟨rfl, rg_out 0 0 E0 HRR.out (Nat.le_refl _)⟩
        · go_wp2_with (first | (go_at_call 23; refine (HF.out _).mono ?_; rintro e w' ⟨rfl, rfl⟩))
          exact bodyPost_ret (v := Out T n E0 0) (by simp [results, Try.results13, go_sem, z0, z1, z2]) rfl ⟨rfl, rg_out T n E0 HRR.out (Nat.le_refl _)⟩
      · clear HU HW HP HV
        rcases hres with ⟨q, rfl⟩ | ⟨-, rfl⟩
        · exact absurd q (by decide)
        · go_wp2_with (first | (go_at_call 23; refine (HF.out _).mono ?_; rintro e w' ⟨rfl, rfl⟩))
          exact bodyPost_ret (v := Out T n E0 0) (by simp [results, Try.results13, go_sem, z0, z1, z2]) rfl ⟨rfl, rg_out T n E0 HRR.out (Nat.le_refl _)⟩
      · have hu := HV.out
        generalize ROfInt na = n at *
        have HU2 := Lib.hid hu
        clear hu HU HW HP HV
        rcases hres with ⟨q, rfl⟩ | ⟨-, rfl⟩
        · exact absurd q (by decide)
        · go_wp2_with (first | (go_at_call 23; refine (HF.out _).mono ?_; rintro e w' ⟨rfl, rfl⟩))
          refine (HU2.out _).mono ?_
          rintro x w2 ⟨rfl, rfl⟩
          go_wp2
          exact bodyPost_ret (v := Out T n E0 0) (by simp [results, Try.results13, go_sem, z0, z1, z2]) rfl ⟨rfl, rg_out T n E0 HRR.out (Nat.le_refl _)⟩
      · clear HU HW HP HV
        rcases hres with ⟨q, rfl⟩ | ⟨-, rfl⟩
        · exact absurd q (by decide)
        · go_wp2_with (first | (go_at_call 23; refine (HF.out _).mono ?_; rintro e w' ⟨rfl, rfl⟩))
          exact bodyPost_ret (v := Out T n E0 0) (by simp [results, Try.results13, go_sem, z0, z1, z2]) rfl ⟨rfl, rg_out T n E0 HRR.out (Nat.le_refl _)⟩
      · have hu := HW.out ops
        rw [← en, ← ee] at hu
        have HU2 := Lib.hid hu
        clear hu HU HW HP HV en ee ops
        go_wp2_with (first | (go_at_call 23; refine (HF.out _).mono ?_; rintro e w' ⟨rfl, rfl⟩))
        refine (HU2.out _).mono ?_
        rintro x w2 ⟨rfl, rfl⟩
        rcases hres with ⟨q, rfl⟩ | ⟨rfl, rfl⟩
        · go_wp2_with (first | (go_at_call 23; refine (HF.out _).mono ?_; rintro e w' ⟨rfl, rfl⟩))
          exact bodyPost_ret (v := Out 0 0 E0 e) (by simp [results, Try.results13, go_sem, z0, z1, z2]) rfl ⟨rfl, rg_out 0 0 E0 HRR.out (Nat.le_refl _)⟩
        · go_wp2_with (first | (go_at_call 23; refine (HF.out _).mono ?_; rintro e w' ⟨rfl, rfl⟩))
          exact bodyPost_ret (v := Out 2 n E0 0) (by simp [results, Try.results13, go_sem, z0, z1, z2]) rfl ⟨rfl, rg_out 2 n E0 HRR.out (Nat.le_refl _)⟩
      · have hu := HP.out ops
        generalize pointV op na nb = n at *
        have HU2 := Lib.hid hu
        clear hu HU HW HP HV ops
        rcases hres with ⟨q, rfl⟩ | ⟨-, rfl⟩
        · exact absurd q (by decide)
        · go_wp2_with (first | (go_at_call 23; refine (HF.out _).mono ?_; rintro e w' ⟨rfl, rfl⟩))
          refine (HU2.out _).mono ?_
          rintro x w2 ⟨rfl, n5, rfl⟩
          have r5 := HRR.out.step (w1 := wc.drewN n5) ⟨rfl, rfl, rfl, Nat.le_refl _, fun _ _ => rfl⟩
          clear z0 y0 z1 y1 z2 y2 n0 n1 n2 a0 a1 a2 b0 b1 b2
          obtain ⟨⟨⟨z0, y0⟩, ⟨z1, y1⟩, ⟨z2, y2⟩⟩, -, -, -⟩ := rd_in r5
          have HRS := Lib.hid r5
          clear r5
          go_wp2
          exact bodyPost_ret (v := Out T n E0 0) (by simp [results, Try.results13, go_sem, z0, z1, z2]) rfl ⟨rfl, rg_out T n E0 HRS.out (Nat.le_refl _)⟩

end Go.Proofs.Ytceingfjdkpolaa
