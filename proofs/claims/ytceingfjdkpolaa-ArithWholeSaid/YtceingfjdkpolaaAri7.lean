/-
  Contracts over the translation: package arith's Do, for one and for two operands.
  Conditions: the operands lie in memory; their texts have at most 200 bytes.
-/
import Derived.Test.YtceingfjdkpolaaAri6
namespace Go.Proofs.Ytceingfjdkpolaa
open Go.RowKit Go.Joins Go.ChangeShapes Go.WideShapes
set_option linter.unusedVariables false

abbrev E0 : ByteArray := ⟨#[]⟩
def two (a b : Int) (i : Nat) : Int := if i = 0 then a else b

theorem do_bad (op : Int) (A : Option Addr) (m cap : Nat) (hm : m ≤ maxLen) (h : m = 0 ∨ cntV op ≠ m) (w : World) :
    Calls Try.prog 12 #[.int .i64 op, .slice A m cap] w fun e w' => e = .returned (Out 0 0 E0 30) ∧ Below w.heap.size w w' := by
  unfold maxLen at hm
  have ho := operands_any op
  generalize cntV op = c at *
  have HO := Lib.hid ho
  clear ho
  by_cases h0 : m = 0
  · subst h0
    clear h
    go_enter Try.func12, Try.ntmps12
    go_wp2_with (go_at_call 19; refine (HO.out _).mono ?_; rintro e w' ⟨rfl, rfl⟩)
    exact bodyPost_ret (v := Out 0 0 E0 30) (by simp [results, Try.results12, go_sem]) rfl ⟨rfl, (Below.refl _ _).alloc (Nat.le_refl _) _⟩
  · have e0 : ((m : Int) == 0) = false := by simpa using h0
    have e0' : ¬ (m : Int) = 0 := by omega
    have e1 : ((m : Int) != (c : Int)) = true := by simp; omega
    have e1' : ¬ (m : Int) = (c : Int) := by omega
    have e2 : (m == 0) = false := by simpa using h0
    have e3 : (m != c) = true := by simp; omega
    clear h h0
    go_enter Try.func12, Try.ntmps12
    go_wp2_with (go_at_call 19; refine (HO.out _).mono ?_; rintro e w' ⟨rfl, rfl⟩)
    exact bodyPost_ret (v := Out 0 0 E0 30) (by simp [results, Try.results12, go_sem]) rfl ⟨rfl, (Below.refl _ _).alloc (Nat.le_refl _) _⟩

abbrev Ci (g o : Nat) (n : Int) : Nat × Nat × Value := (g, o, .int .i64 n)
theorem opd_on {w w' : World} {b off : Nat} {k n : Int} {s : ByteArray} (hb : b < w.heap.size) (h : Opd w b off k n s) (hw : Below w.heap.size w w') : Opd w' b off k n s := by
  obtain ⟨hc, _⟩ := bcell hw
  exact ⟨(hc _ _ hb).trans h.1, (hc _ _ hb).trans h.2.1, (hc _ _ hb).trans h.2.2⟩

theorem rg_out {B h : Nat} {w w1 : World} {k n : Int} {s : ByteArray} {l : List (Nat × Nat × Value)} (k' n' : Int) (s' : ByteArray) (r : Rg B w w1 (Vc h k n s ++ l)) (hB : B ≤ h) :
    Below B w (((w1.setCell ⟨h, 0, none⟩ (.int .i64 k')).setCell ⟨h, 1, none⟩ (.int .i64 n')).setCell ⟨h, 2, none⟩ (.string s')) :=
  ((r.bel.setCell hB _).setCell hB _).setCell hB _
theorem rg_out_alloc {B h : Nat} {w w1 : World} {k n : Int} {s : ByteArray} {l : List (Nat × Nat × Value)} (k' n' : Int) (s' : ByteArray) (r : Rg B w w1 (Vc h k n s ++ l)) (hB : B ≤ h) (o : Obj) :
    Below B w ((((w1.setCell ⟨h, 0, none⟩ (.int .i64 k')).setCell ⟨h, 1, none⟩ (.int .i64 n')).setCell ⟨h, 2, none⟩ (.string s')).alloc o) :=
  (rg_out k' n' s' r hB).alloc (by have := r.2.1; simpa [World.setCell] using this) o

theorem kp_do1 (w : World) : Rg w.heap.size w ((w.alloc (Vx 0 0 E0)).alloc (.cells #[.int .i64 0] 3)) (Vc w.heap.size 0 0 E0 ++ [Ci (w.heap.size + 1) 0 0]) := by
  refine ⟨((Below.refl _ _).alloc (Nat.le_refl _) _).alloc (by simp) _, by simp; omega, ?_⟩
  unfold Kp
  simp only [List.cons_append, List.nil_append, List.forall_mem_cons, List.not_mem_nil, false_implies, implies_true, and_true]
  go_simp
theorem do1_set0 {B h : Nat} {w w1 : World} {a : Int} (a' : Int) (r : Rg B w w1 (Vc h 0 0 E0 ++ [Ci (h + 1) 0 a])) (hB : B ≤ h + 1) : Rg B w (w1.setCell ⟨h + 1, 0, none⟩ (.int .i64 a')) (Vc h 0 0 E0 ++ [Ci (h + 1) 0 a']) := by
  have r1 : Rg B w w1 (Ci (h + 1) 0 a :: (Vc h 0 0 E0)) := r.sub fun x hx => by
    simp only [List.cons_append, List.nil_append, List.mem_cons, List.not_mem_nil, or_false] at hx ⊢
    rcases hx with h | h | h | h <;> simp [h]
  have r2 := r1.set (u := .int .i64 a') hB (by simp)
  exact r2.sub fun x hx => by
    simp only [List.cons_append, List.nil_append, List.mem_cons, List.not_mem_nil, or_false] at hx ⊢
    rcases hx with h | h | h | h <;> simp [h]
theorem do1_in {B h : Nat} {w w1 : World} {a : Int} (r : Rg B w w1 (Vc h 0 0 E0 ++ [Ci (h + 1) 0 a])) :
    (w1.cell? ⟨h, 0, none⟩ = some (.int .i64 0) ∧ w1.frozen? ⟨h, 0, none⟩ = false) ∧ (w1.cell? ⟨h, 1, none⟩ = some (.int .i64 0) ∧ w1.frozen? ⟨h, 1, none⟩ = false) ∧ (w1.cell? ⟨h, 2, none⟩ = some (.string E0) ∧ w1.frozen? ⟨h, 2, none⟩ = false) ∧
    (w1.cell? ⟨h + 1, 0, none⟩ = some (.int .i64 a) ∧ w1.frozen? ⟨h + 1, 0, none⟩ = false) :=
  ⟨r.kp.hd, r.kp.tl.hd, r.kp.tl.tl.hd, r.kp.tl.tl.tl.hd⟩

set_option maxHeartbeats 2000000 in
theorem do1_null0 (op : Int) (b off cap : Nat) (ka na : Int) (sa : ByteArray) (w : World) (hb : b < w.heap.size) (h0 : Opd w b off ka na sa) (hc : cntV op = 1) (hz : ka = 0) :
    Calls Try.prog 12 #[.int .i64 op, .slice (some ⟨b, off, none⟩) 1 cap] w fun e w' => e = .returned (Out 0 0 E0 0) ∧ Below w.heap.size w w' := by
  have HO := Lib.hid (operands_any op)
  rw [hc] at HO
  have hmk : ∀ W : World, (Instr.makeSlice 35 (.int .i64 1) (.int .i64 1)).run Try.prog W = .ok (.slice (some ⟨W.heap.size, 0, none⟩) 1 1) (W.alloc (.cells #[.int .i64 0] 3)) := fun _ => by kernel_rfl
  subst hz
  clear hc
  go_enter Try.func12, Try.ntmps12
  go_wp2_with (go_at_call 19; refine (HO.out _).mono ?_; rintro e w' ⟨rfl, rfl⟩)
  have k0 := kp_do1 w
  generalize (w.alloc (Vx 0 0 E0)).alloc (.cells #[.int .i64 0] 3) = wb at *
  go_loopw [29] (fun i wr => (i = .int .i64 0 ∧ Rg w.heap.size w wr (Vc w.heap.size 0 0 E0 ++ [Ci (w.heap.size + 1) 0 0]))) (fun i _ => 1 - (intOf i).toNat)
  case atStart => exact ⟨rfl, k0⟩
  case round =>
    obtain ⟨rfl, hr⟩ := hrel
    · skip
      obtain ⟨c0, c1, c2⟩ := opd_on hb h0 hr.bel
      obtain ⟨⟨z0, y0⟩, ⟨z1, y1⟩, ⟨z2, y2⟩, ⟨z3, y3⟩⟩ := do1_in hr
      have l0 : w.heap.size < wr.heap.size := hr.kp.lt
      have l1 : w.heap.size + 1 < wr.heap.size := hr.kp.tl.tl.tl.lt
      have l2 : b < wr.heap.size := Nat.lt_of_lt_of_le hb hr.2.1
      go_wp2
      exact bodyPost_ret (v := Out 0 0 E0 0) (by simp [results, Try.results12, go_sem, z0, z1, z2, l0]) rfl ⟨rfl, rg_out_alloc 0 0 E0 hr (Nat.le_refl _) _⟩

set_option maxHeartbeats 4000000 in
theorem do1_full (op : Int) (b off cap : Nat) (ka na : Int) (sa : ByteArray) (w : World) (hb : b < w.heap.size) (h0 : Opd w b off ka na sa) (hc : cntV op = 1) (hka : ka ≠ 0) (hi : InI na) (hi' : InI na)
    (T : Int) (hT : tyV op 1 ka ka = T) (N : Int × Int) (hN : numV op ka na na = N) (R : Int × Int × ByteArray × Int)
    (hR : (T = 0 ∧ R = (0, 0, E0, 30)) ∨ ((T == 0) = false ∧ (T == 4) = false ∧ (op = 14 ∨ op = 15 ∨ (ka = 3 ∧ OpsR op) ∨ (ka ≠ 3 ∧ OpsI op)) ∧ (((N.2 != 0) = true ∧ R = (0, 0, E0, N.2)) ∨ (N.2 = 0 ∧ R = (T, N.1, E0, 0))))) :
    Calls Try.prog 12 #[.int .i64 op, .slice (some ⟨b, off, none⟩) 1 cap] w fun e w' => e = .returned (Out R.1 R.2.1 R.2.2.1 R.2.2.2) ∧ Below w.heap.size w w' := by
  have HO := Lib.hid (operands_any op)
  rw [hc] at HO
  have hmk : ∀ W : World, (Instr.makeSlice 35 (.int .i64 1) (.int .i64 1)).run Try.prog W = .ok (.slice (some ⟨W.heap.size, 0, none⟩) 1 1) (W.alloc (.cells #[.int .i64 0] 3)) := fun _ => by kernel_rfl
  have HTY := Lib.hid (fun g (W : World) (h : IsI W g 0 1 (fun _ => ka)) => type_good op g 0 1 1 (fun _ => ka) W (by omega) hc h)
  have e0 : (ka == 0) = false := by simpa using hka
  have HC := Lib.hid (fun (W : World) h g (q : True) => compute_1 op b off cap ka na sa W h g hi hi')
  have HI := Lib.hid hR
  have HT := Lib.hid hT
  have HN := Lib.hid hN
  clear hc hR hT hN hka
  go_enter Try.func12, Try.ntmps12
  go_wp2_with (go_at_call 19; refine (HO.out _).mono ?_; rintro e w' ⟨rfl, rfl⟩)
  have k0 := kp_do1 w
  generalize (w.alloc (Vx 0 0 E0)).alloc (.cells #[.int .i64 0] 3) = wb at *
  go_loopw [29] (fun i wr => (i = .int .i64 0 ∧ Rg w.heap.size w wr (Vc w.heap.size 0 0 E0 ++ [Ci (w.heap.size + 1) 0 0])) ∨ (i = .int .i64 1 ∧ Rg w.heap.size w wr (Vc w.heap.size 0 0 E0 ++ [Ci (w.heap.size + 1) 0 ka]))) (fun i _ => 1 - (intOf i).toNat)
  case atStart => exact .inl ⟨rfl, k0⟩
  case round =>
    rcases hrel with ⟨rfl, hr⟩ | ⟨rfl, hr⟩
    · skip
      obtain ⟨c0, c1, c2⟩ := opd_on hb h0 hr.bel
      obtain ⟨⟨z0, y0⟩, ⟨z1, y1⟩, ⟨z2, y2⟩, ⟨z3, y3⟩⟩ := do1_in hr
      have l0 : w.heap.size < wr.heap.size := hr.kp.lt
      have l1 : w.heap.size + 1 < wr.heap.size := hr.kp.tl.tl.tl.lt
      have l2 : b < wr.heap.size := Nat.lt_of_lt_of_le hb hr.2.1
      go_wp2
      go_roundw
      case rel => exact .inr ⟨rfl, (do1_set0 ka hr (by omega)).alloc _⟩
      case measure => simp [intOf]
    · have hI : IsI wr (w.heap.size + 1) 0 1 (fun _ => ka) := ⟨fun _ => hr.kp.tl.tl.tl.lt, fun i hi => by
        match i, hi with
        | 0, _ => exact hr.kp.tl.tl.tl.hd.1⟩
      have ht := HTY.out _ wr hI
      have hT0 : tyV op 1 ((fun _ => ka) 0) ((fun _ => ka) (1 - 1)) = T := HT.out
      rw [hT0] at ht
      have HTT := Lib.hid ht
      have o0 := opd_on hb h0 hr.bel
      skip
      obtain ⟨⟨z0, y0⟩, ⟨z1, y1⟩, ⟨z2, y2⟩, ⟨z3, y3⟩⟩ := do1_in hr
      have hlt : b < wr.heap.size := Nat.lt_of_lt_of_le hb hr.2.1
      have HR := Lib.hid hr
      have HO0 := Lib.hid o0
      skip
      clear ht hT0 hI hr o0 z3 y3 h0
      go_wp2_with fail
      refine HTT.out.mono ?_
      rintro e w' ⟨rfl, rfl⟩
      rcases HI.out with ⟨rfl, rfl⟩ | ⟨t1, t2, hops, hres⟩
      · clear HTT HI HTY HC
        go_wp2
        exact bodyPost_ret (v := Out 0 0 E0 30) (by simp [results, Try.results12, go_sem, z0, z1, z2]) rfl ⟨rfl, rg_out 0 0 E0 HR.out (Nat.le_refl _)⟩
      · have tn : (T != 0) = true := by simpa using t1
        have hcmp := HC.out wr hlt HO0.out True.intro hops
        rw [HN.out] at hcmp
        obtain ⟨n1, n2⟩ := N
        have HCM := Lib.hid hcmp
        clear HTT HTY HC HI hcmp hops
        go_wp2_with fail
        refine HCM.out.mono ?_
        rintro e w2 ⟨rfl, hb2⟩
        have HR2 := Lib.hid (HR.out.step hb2)
        clear z0 y0 z1 y1 z2 y2 hb2
        obtain ⟨⟨z0, y0⟩, ⟨z1, y1⟩, ⟨z2, y2⟩, ⟨z3, y3⟩⟩ := do1_in HR2.out
        rcases hres with ⟨q, rfl⟩ | ⟨q, rfl⟩
        · go_wp2
          exact bodyPost_ret (v := Out 0 0 E0 n2) (by simp [results, Try.results12, go_sem, z0, z1, z2]) rfl ⟨rfl, rg_out 0 0 E0 HR2.out (Nat.le_refl _)⟩
        · have q' : n2 = 0 := q
          subst q'
          go_wp2
          exact bodyPost_ret (v := Out T n1 E0 0) (by simp [results, Try.results12, go_sem, z0, z1, z2]) rfl ⟨rfl, rg_out T n1 E0 HR2.out (Nat.le_refl _)⟩

theorem kp_do2 (w : World) : Rg w.heap.size w ((w.alloc (Vx 0 0 E0)).alloc (.cells #[.int .i64 0, .int .i64 0] 3)) (Vc w.heap.size 0 0 E0 ++ [Ci (w.heap.size + 1) 0 0, Ci (w.heap.size + 1) 1 0]) := by
  refine ⟨((Below.refl _ _).alloc (Nat.le_refl _) _).alloc (by simp) _, by simp; omega, ?_⟩
  unfold Kp
  simp only [List.cons_append, List.nil_append, List.forall_mem_cons, List.not_mem_nil, false_implies, implies_true, and_true]
  go_simp
theorem do2_set0 {B h : Nat} {w w1 : World} {a b : Int} (a' : Int) (r : Rg B w w1 (Vc h 0 0 E0 ++ [Ci (h + 1) 0 a, Ci (h + 1) 1 b])) (hB : B ≤ h + 1) : Rg B w (w1.setCell ⟨h + 1, 0, none⟩ (.int .i64 a')) (Vc h 0 0 E0 ++ [Ci (h + 1) 0 a', Ci (h + 1) 1 b]) := by
  have r1 : Rg B w w1 (Ci (h + 1) 0 a :: ([Ci (h + 1) 1 b] ++ Vc h 0 0 E0)) := r.sub fun x hx => by
    simp only [List.cons_append, List.nil_append, List.mem_cons, List.not_mem_nil, or_false] at hx ⊢
    rcases hx with h | h | h | h | h <;> simp [h]
  have r2 := r1.set (u := .int .i64 a') hB (by simp)
  exact r2.sub fun x hx => by
    simp only [List.cons_append, List.nil_append, List.mem_cons, List.not_mem_nil, or_false] at hx ⊢
    rcases hx with h | h | h | h | h <;> simp [h]
theorem do2_set1 {B h : Nat} {w w1 : World} {a b : Int} (b' : Int) (r : Rg B w w1 (Vc h 0 0 E0 ++ [Ci (h + 1) 0 a, Ci (h + 1) 1 b])) (hB : B ≤ h + 1) : Rg B w (w1.setCell ⟨h + 1, 1, none⟩ (.int .i64 b')) (Vc h 0 0 E0 ++ [Ci (h + 1) 0 a, Ci (h + 1) 1 b']) := by
  have r1 : Rg B w w1 (Ci (h + 1) 1 b :: ([Ci (h + 1) 0 a] ++ Vc h 0 0 E0)) := r.sub fun x hx => by
    simp only [List.cons_append, List.nil_append, List.mem_cons, List.not_mem_nil, or_false] at hx ⊢
    rcases hx with h | h | h | h | h <;> simp [h]
  have r2 := r1.set (u := .int .i64 b') hB (by simp)
  exact r2.sub fun x hx => by
    simp only [List.cons_append, List.nil_append, List.mem_cons, List.not_mem_nil, or_false] at hx ⊢
    rcases hx with h | h | h | h | h <;> simp [h]
theorem do2_in {B h : Nat} {w w1 : World} {a b : Int} (r : Rg B w w1 (Vc h 0 0 E0 ++ [Ci (h + 1) 0 a, Ci (h + 1) 1 b])) :
    (w1.cell? ⟨h, 0, none⟩ = some (.int .i64 0) ∧ w1.frozen? ⟨h, 0, none⟩ = false) ∧ (w1.cell? ⟨h, 1, none⟩ = some (.int .i64 0) ∧ w1.frozen? ⟨h, 1, none⟩ = false) ∧ (w1.cell? ⟨h, 2, none⟩ = some (.string E0) ∧ w1.frozen? ⟨h, 2, none⟩ = false) ∧
    (w1.cell? ⟨h + 1, 0, none⟩ = some (.int .i64 a) ∧ w1.frozen? ⟨h + 1, 0, none⟩ = false) ∧ (w1.cell? ⟨h + 1, 1, none⟩ = some (.int .i64 b) ∧ w1.frozen? ⟨h + 1, 1, none⟩ = false) :=
  ⟨r.kp.hd, r.kp.tl.hd, r.kp.tl.tl.hd, r.kp.tl.tl.tl.hd, r.kp.tl.tl.tl.tl.hd⟩

set_option maxHeartbeats 2000000 in
theorem do2_null0 (op : Int) (b off cap : Nat) (ka na : Int) (sa : ByteArray) (kb nb : Int) (sb : ByteArray) (w : World) (hb : b < w.heap.size) (h0 : Opd w b off ka na sa) (h1 : Opd w b (off + 3) kb nb sb) (hc : cntV op = 2) (hz : ka = 0) :
    Calls Try.prog 12 #[.int .i64 op, .slice (some ⟨b, off, none⟩) 2 cap] w fun e w' => e = .returned (Out 0 0 E0 0) ∧ Below w.heap.size w w' := by
  have HO := Lib.hid (operands_any op)
  rw [hc] at HO
  have hmk : ∀ W : World, (Instr.makeSlice 35 (.int .i64 2) (.int .i64 2)).run Try.prog W = .ok (.slice (some ⟨W.heap.size, 0, none⟩) 2 2) (W.alloc (.cells #[.int .i64 0, .int .i64 0] 3)) := fun _ => by kernel_rfl
  subst hz
  clear hc
  go_enter Try.func12, Try.ntmps12
  go_wp2_with (go_at_call 19; refine (HO.out _).mono ?_; rintro e w' ⟨rfl, rfl⟩)
  have k0 := kp_do2 w
  generalize (w.alloc (Vx 0 0 E0)).alloc (.cells #[.int .i64 0, .int .i64 0] 3) = wb at *
  go_loopw [29] (fun i wr => (i = .int .i64 0 ∧ Rg w.heap.size w wr (Vc w.heap.size 0 0 E0 ++ [Ci (w.heap.size + 1) 0 0, Ci (w.heap.size + 1) 1 0]))) (fun i _ => 2 - (intOf i).toNat)
  case atStart => exact ⟨rfl, k0⟩
  case round =>
    obtain ⟨rfl, hr⟩ := hrel
    · skip
      obtain ⟨c0, c1, c2⟩ := opd_on hb h0 hr.bel
      obtain ⟨⟨z0, y0⟩, ⟨z1, y1⟩, ⟨z2, y2⟩, ⟨z3, y3⟩, ⟨z4, y4⟩⟩ := do2_in hr
      have l0 : w.heap.size < wr.heap.size := hr.kp.lt
      have l1 : w.heap.size + 1 < wr.heap.size := hr.kp.tl.tl.tl.lt
      have l2 : b < wr.heap.size := Nat.lt_of_lt_of_le hb hr.2.1
      go_wp2
      exact bodyPost_ret (v := Out 0 0 E0 0) (by simp [results, Try.results12, go_sem, z0, z1, z2, l0]) rfl ⟨rfl, rg_out_alloc 0 0 E0 hr (Nat.le_refl _) _⟩

set_option maxHeartbeats 2000000 in
theorem do2_null1 (op : Int) (b off cap : Nat) (ka na : Int) (sa : ByteArray) (kb nb : Int) (sb : ByteArray) (w : World) (hb : b < w.heap.size) (h0 : Opd w b off ka na sa) (h1 : Opd w b (off + 3) kb nb sb) (hc : cntV op = 2) (hka : ka ≠ 0) (hz : kb = 0) :
    Calls Try.prog 12 #[.int .i64 op, .slice (some ⟨b, off, none⟩) 2 cap] w fun e w' => e = .returned (Out 0 0 E0 0) ∧ Below w.heap.size w w' := by
  have HO := Lib.hid (operands_any op)
  rw [hc] at HO
  have hmk : ∀ W : World, (Instr.makeSlice 35 (.int .i64 2) (.int .i64 2)).run Try.prog W = .ok (.slice (some ⟨W.heap.size, 0, none⟩) 2 2) (W.alloc (.cells #[.int .i64 0, .int .i64 0] 3)) := fun _ => by kernel_rfl
  subst hz
  have e0 : (ka == 0) = false := by simpa using hka
  clear hka
  clear hc
  go_enter Try.func12, Try.ntmps12
  go_wp2_with (go_at_call 19; refine (HO.out _).mono ?_; rintro e w' ⟨rfl, rfl⟩)
  have k0 := kp_do2 w
  generalize (w.alloc (Vx 0 0 E0)).alloc (.cells #[.int .i64 0, .int .i64 0] 3) = wb at *
  go_loopw [29] (fun i wr => (i = .int .i64 0 ∧ Rg w.heap.size w wr (Vc w.heap.size 0 0 E0 ++ [Ci (w.heap.size + 1) 0 0, Ci (w.heap.size + 1) 1 0])) ∨ (i = .int .i64 1 ∧ Rg w.heap.size w wr (Vc w.heap.size 0 0 E0 ++ [Ci (w.heap.size + 1) 0 ka, Ci (w.heap.size + 1) 1 0]))) (fun i _ => 2 - (intOf i).toNat)
  case atStart => exact .inl ⟨rfl, k0⟩
  case round =>
    rcases hrel with ⟨rfl, hr⟩ | ⟨rfl, hr⟩
    · skip
      obtain ⟨c0, c1, c2⟩ := opd_on hb h0 hr.bel
      obtain ⟨⟨z0, y0⟩, ⟨z1, y1⟩, ⟨z2, y2⟩, ⟨z3, y3⟩, ⟨z4, y4⟩⟩ := do2_in hr
      have l0 : w.heap.size < wr.heap.size := hr.kp.lt
      have l1 : w.heap.size + 1 < wr.heap.size := hr.kp.tl.tl.tl.lt
      have l2 : b < wr.heap.size := Nat.lt_of_lt_of_le hb hr.2.1
      go_wp2
      go_roundw
      case rel => exact .inr ⟨rfl, (do2_set0 ka hr (by omega)).alloc _⟩
      case measure => simp [intOf]
    · skip
      obtain ⟨c0, c1, c2⟩ := opd_on hb h1 hr.bel
      obtain ⟨⟨z0, y0⟩, ⟨z1, y1⟩, ⟨z2, y2⟩, ⟨z3, y3⟩, ⟨z4, y4⟩⟩ := do2_in hr
      have l0 : w.heap.size < wr.heap.size := hr.kp.lt
      have l1 : w.heap.size + 1 < wr.heap.size := hr.kp.tl.tl.tl.lt
      have l2 : b < wr.heap.size := Nat.lt_of_lt_of_le hb hr.2.1
      go_wp2
      exact bodyPost_ret (v := Out 0 0 E0 0) (by simp [results, Try.results12, go_sem, z0, z1, z2, l0]) rfl ⟨rfl, rg_out_alloc 0 0 E0 hr (Nat.le_refl _) _⟩

/-- a world on the way through the joining of two texts -/
def TxS (B b off : Nat) (w : World) (s t : ByteArray) (w0 : World) : Prop := Og B B 3 w w0 [] ∧ b ≠ B ∧ b < w0.heap.size ∧ w0.cell? ⟨b, off + 2, none⟩ = some (.string s) ∧ w0.cell? ⟨b, off + 3 + 2, none⟩ = some (.string t)
theorem TxS.step {B b off : Nat} {w w0 w1 : World} {s t : ByteArray} (x : TxS B b off w s t w0) (hb : Below w0.heap.size w0 w1) : TxS B b off w s t w1 := by
  obtain ⟨hc, _⟩ := bcell hb
  obtain ⟨a, c, d, e, f⟩ := x
  exact ⟨a.step hb, c, Nat.lt_of_lt_of_le d hb.size, (hc _ _ d).trans e, (hc _ _ d).trans f⟩
theorem TxS.drew {B b off : Nat} {w w0 : World} {s t : ByteArray} (x : TxS B b off w s t w0) : TxS B b off w s t w0.drew := ⟨x.1.drew, x.2.1, x.2.2.1, x.2.2.2.1, x.2.2.2.2⟩
theorem TxS.set {B b off : Nat} {w w0 : World} {s t : ByteArray} (x : TxS B b off w s t w0) (o : Nat) (u : Value) : TxS B b off w s t (w0.setCell ⟨B, o, none⟩ u) := by
  obtain ⟨a, c, d, e, f⟩ := x
  refine ⟨a.set o u, c, by simpa [World.setCell] using d, ?_, ?_⟩ <;> rw [World.cell?_setCell_other _ _ _ _ (fun q => c (by injection q with q1 q2; exact q1.symm))]
  · exact e
  · exact f
theorem tx_all {B b off : Nat} {w w0 : World} {s t : ByteArray} (x : TxS B b off w s t w0) :
    TxS B b off w s t w0 ∧ w0.cell? ⟨b, off + 2, none⟩ = some (.string s) ∧ w0.cell? ⟨b, off + 3 + 2, none⟩ = some (.string t) ∧
    w0.cell? ⟨B, 0, none⟩ = some (cval w0 ⟨B, 0, none⟩) ∧ w0.cell? ⟨B, 1, none⟩ = some (cval w0 ⟨B, 1, none⟩) ∧ w0.cell? ⟨B, 2, none⟩ = some (cval w0 ⟨B, 2, none⟩) ∧ w0.frozen? ⟨B, 0, none⟩ = false ∧ w0.frozen? ⟨B, 1, none⟩ = false ∧ w0.frozen? ⟨B, 2, none⟩ = false :=
  ⟨x, x.2.2.2.1, x.2.2.2.2, (x.1.own 0 (by decide)).1, (x.1.own 1 (by decide)).1, (x.1.own 2 (by decide)).1, (x.1.own 0 (by decide)).2, (x.1.own 1 (by decide)).2, (x.1.own 2 (by decide)).2⟩
theorem tx_start {w wr : World} {b off : Nat} {k n k' n' x y : Int} {s t : ByteArray} (r : Rg w.heap.size w wr (Vc w.heap.size 0 0 E0 ++ [Ci (w.heap.size + 1) 0 x, Ci (w.heap.size + 1) 1 y])) (hb : b < w.heap.size) (hlt : b < wr.heap.size) (h0 : Opd wr b off k n s) (h1 : Opd wr b (off + 3) k' n' t) :
    TxS w.heap.size b off w s t wr := by
  obtain ⟨⟨z0, y0⟩, ⟨z1, y1⟩, ⟨z2, y2⟩, -, -⟩ := do2_in r
  refine ⟨⟨⟨r.1, r.2.1, fun p hp => absurd hp (by simp)⟩, Nat.le_refl _, fun p hp => absurd hp (by simp), r.kp.lt, ?_⟩, by omega, hlt, h0.2.2, h1.2.2⟩
  intro o ho
  match o, ho with
  | 0, _ => exact ⟨⟨_, z0⟩, y0⟩
  | 1, _ => exact ⟨⟨_, z1⟩, y1⟩
  | 2, _ => exact ⟨⟨_, z2⟩, y2⟩

set_option maxHeartbeats 4000000 in
theorem do2_full (op : Int) (b off cap : Nat) (ka na : Int) (sa : ByteArray) (kb nb : Int) (sb : ByteArray) (w : World) (hb : b < w.heap.size) (h0 : Opd w b off ka na sa) (h1 : Opd w b (off + 3) kb nb sb) (hc : cntV op = 2) (hka : ka ≠ 0) (hkb : kb ≠ 0) (hi : InI na) (hi' : InI nb) (hsa : sa.size ≤ 200) (hsb : sb.size ≤ 200)
    (T : Int) (hT : tyV op 2 ka kb = T) (N : Int × Int) (hN : numV op ka na nb = N) (R : Int × Int × ByteArray × Int)
    (hR : (T = 0 ∧ R = (0, 0, E0, 30)) ∨ (T = 4 ∧ 200 < sa.size + sb.size ∧ R = (0, 0, E0, 1)) ∨ (T = 4 ∧ sa.size + sb.size ≤ 200 ∧ R = (4, 0, sa ++ sb, 0)) ∨ ((T == 0) = false ∧ (T == 4) = false ∧ (op = 14 ∨ op = 15 ∨ (ka = 3 ∧ OpsR op) ∨ (ka ≠ 3 ∧ OpsI op)) ∧ (((N.2 != 0) = true ∧ R = (0, 0, E0, N.2)) ∨ (N.2 = 0 ∧ R = (T, N.1, E0, 0))))) :
    Calls Try.prog 12 #[.int .i64 op, .slice (some ⟨b, off, none⟩) 2 cap] w fun e w' => e = .returned (Out R.1 R.2.1 R.2.2.1 R.2.2.2) ∧ Below w.heap.size w w' := by
  have HO := Lib.hid (operands_any op)
  rw [hc] at HO
  have hmk : ∀ W : World, (Instr.makeSlice 35 (.int .i64 2) (.int .i64 2)).run Try.prog W = .ok (.slice (some ⟨W.heap.size, 0, none⟩) 2 2) (W.alloc (.cells #[.int .i64 0, .int .i64 0] 3)) := fun _ => by kernel_rfl
  have HTY := Lib.hid (fun g (W : World) (h : IsI W g 0 2 (two ka kb)) => type_good op g 0 2 2 (two ka kb) W (by omega) hc h)
  have e0 : (ka == 0) = false := by simpa using hka
  have e1 : (kb == 0) = false := by simpa using hkb
  have HC := Lib.hid (fun (W : World) h g q => compute_2 op b off cap ka na sa kb nb sb W h g q hi hi')
  have HI := Lib.hid hR
  have HT := Lib.hid hT
  have HN := Lib.hid hN
  clear hc hR hT hN hka hkb
  go_enter Try.func12, Try.ntmps12
  go_wp2_with (go_at_call 19; refine (HO.out _).mono ?_; rintro e w' ⟨rfl, rfl⟩)
  have k0 := kp_do2 w
  generalize (w.alloc (Vx 0 0 E0)).alloc (.cells #[.int .i64 0, .int .i64 0] 3) = wb at *
  go_loopw [29] (fun i wr => (i = .int .i64 0 ∧ Rg w.heap.size w wr (Vc w.heap.size 0 0 E0 ++ [Ci (w.heap.size + 1) 0 0, Ci (w.heap.size + 1) 1 0])) ∨ (i = .int .i64 1 ∧ Rg w.heap.size w wr (Vc w.heap.size 0 0 E0 ++ [Ci (w.heap.size + 1) 0 ka, Ci (w.heap.size + 1) 1 0])) ∨ (i = .int .i64 2 ∧ Rg w.heap.size w wr (Vc w.heap.size 0 0 E0 ++ [Ci (w.heap.size + 1) 0 ka, Ci (w.heap.size + 1) 1 kb]))) (fun i _ => 2 - (intOf i).toNat)
  case atStart => exact .inl ⟨rfl, k0⟩
  case round =>
    rcases hrel with ⟨rfl, hr⟩ | ⟨rfl, hr⟩ | ⟨rfl, hr⟩
    · skip
      obtain ⟨c0, c1, c2⟩ := opd_on hb h0 hr.bel
      obtain ⟨⟨z0, y0⟩, ⟨z1, y1⟩, ⟨z2, y2⟩, ⟨z3, y3⟩, ⟨z4, y4⟩⟩ := do2_in hr
      have l0 : w.heap.size < wr.heap.size := hr.kp.lt
      have l1 : w.heap.size + 1 < wr.heap.size := hr.kp.tl.tl.tl.lt
      have l2 : b < wr.heap.size := Nat.lt_of_lt_of_le hb hr.2.1
      go_wp2
      go_roundw
      case rel => exact .inr (.inl ⟨rfl, (do2_set0 ka hr (by omega)).alloc _⟩)
      case measure => simp [intOf]
    · skip
      obtain ⟨c0, c1, c2⟩ := opd_on hb h1 hr.bel
      obtain ⟨⟨z0, y0⟩, ⟨z1, y1⟩, ⟨z2, y2⟩, ⟨z3, y3⟩, ⟨z4, y4⟩⟩ := do2_in hr
      have l0 : w.heap.size < wr.heap.size := hr.kp.lt
      have l1 : w.heap.size + 1 < wr.heap.size := hr.kp.tl.tl.tl.lt
      have l2 : b < wr.heap.size := Nat.lt_of_lt_of_le hb hr.2.1
      go_wp2
      go_roundw
      case rel => exact .inr (.inr ⟨rfl, (do2_set1 kb hr (by omega)).alloc _⟩)
      case measure => simp [intOf]
    · have hI : IsI wr (w.heap.size + 1) 0 2 (two ka kb) := ⟨fun _ => hr.kp.tl.tl.tl.lt, fun i hi => by
        match i, hi with
        | 0, _ => exact hr.kp.tl.tl.tl.hd.1
        | 1, _ => exact hr.kp.tl.tl.tl.tl.hd.1⟩
      have ht := HTY.out _ wr hI
      have hT0 : tyV op 2 ((two ka kb) 0) ((two ka kb) (2 - 1)) = T := HT.out
      rw [hT0] at ht
      have HTT := Lib.hid ht
      have o0 := opd_on hb h0 hr.bel
      have o1 := opd_on hb h1 hr.bel
      obtain ⟨⟨z0, y0⟩, ⟨z1, y1⟩, ⟨z2, y2⟩, ⟨z3, y3⟩, ⟨z4, y4⟩⟩ := do2_in hr
      have hlt : b < wr.heap.size := Nat.lt_of_lt_of_le hb hr.2.1
      have HR := Lib.hid hr
      have HO0 := Lib.hid o0
      have HO1 := Lib.hid o1
      clear ht hT0 hI hr o0 o1 z4 y4 z3 y3 h0 h1
      go_wp2_with fail
      refine HTT.out.mono ?_
      rintro e w' ⟨rfl, rfl⟩
      rcases HI.out with ⟨rfl, rfl⟩ | ⟨rfl, hl, rfl⟩ | ⟨rfl, hl, rfl⟩ | ⟨t1, t2, hops, hres⟩
      · clear HTT HI HTY HC
        go_wp2
        exact bodyPost_ret (v := Out 0 0 E0 30) (by simp [results, Try.results12, go_sem, z0, z1, z2]) rfl ⟨rfl, rg_out 0 0 E0 HR.out (Nat.le_refl _)⟩
      · have HJ := Lib.hid (join_long sa sb hsa hsb hl)
        have hx := tx_start HR.out hb hlt HO0.out HO1.out
        have hs := tx_all hx
        clear HTT HI HTY HC hx z0 y0 z1 y1 z2 y2
        go_wp2_with fail
        go_region_held3 (fun w0 => TxS w.heap.size b off w sa sb w0 ∧ w0.cell? ⟨b, off + 2, none⟩ = some (.string sa) ∧ w0.cell? ⟨b, off + 3 + 2, none⟩ = some (.string sb) ∧ w0.cell? ⟨w.heap.size, 0, none⟩ = some (cval w0 ⟨w.heap.size, 0, none⟩) ∧ w0.cell? ⟨w.heap.size, 1, none⟩ = some (cval w0 ⟨w.heap.size, 1, none⟩) ∧ w0.cell? ⟨w.heap.size, 2, none⟩ = some (cval w0 ⟨w.heap.size, 2, none⟩) ∧ w0.frozen? ⟨w.heap.size, 0, none⟩ = false ∧ w0.frozen? ⟨w.heap.size, 1, none⟩ = false ∧ w0.frozen? ⟨w.heap.size, 2, none⟩ = false)
          (first | (go_split_ands; exact tx_all (by assumption)) | (go_split_ands; exact tx_all (TxS.drew (by assumption))) | (go_split_ands; exact tx_all (TxS.step (by assumption) hbx)) | (go_split_ands; exact tx_all (TxS.set (TxS.set (TxS.set (by assumption) _ _) _ _) _ _)))
          (first | (go_at_call 20; refine (HJ.out _).mono ?_; rintro x w1 ⟨rfl, hbx⟩; have og : TxS _ _ _ _ _ _ _ := TxS.step (And.left (by assumption)) hbx))
        all_goals
          have c0 := (og.1.own 0 (by decide)).1
          have c1 := (og.1.own 1 (by decide)).1
          have c2 := (og.1.own 2 (by decide)).1
          have bl := (((og.1.set 0 (.int .i64 0)).set 1 (.int .i64 0)).set 2 (.string E0)).bel
          go_wp2_with fail
          exact bodyPost_ret (v := Out 0 0 E0 1) (by simp [results, Try.results12, go_sem, c0, c1, c2]) rfl ⟨rfl, bl⟩
      · have HJ := Lib.hid (join_ok sa sb hsa hsb hl)
        have hx := tx_start HR.out hb hlt HO0.out HO1.out
        have hs := tx_all hx
        clear HTT HI HTY HC hx z0 y0 z1 y1 z2 y2
        go_wp2_with fail
        go_region_held3 (fun w0 => TxS w.heap.size b off w sa sb w0 ∧ w0.cell? ⟨b, off + 2, none⟩ = some (.string sa) ∧ w0.cell? ⟨b, off + 3 + 2, none⟩ = some (.string sb) ∧ w0.cell? ⟨w.heap.size, 0, none⟩ = some (cval w0 ⟨w.heap.size, 0, none⟩) ∧ w0.cell? ⟨w.heap.size, 1, none⟩ = some (cval w0 ⟨w.heap.size, 1, none⟩) ∧ w0.cell? ⟨w.heap.size, 2, none⟩ = some (cval w0 ⟨w.heap.size, 2, none⟩) ∧ w0.frozen? ⟨w.heap.size, 0, none⟩ = false ∧ w0.frozen? ⟨w.heap.size, 1, none⟩ = false ∧ w0.frozen? ⟨w.heap.size, 2, none⟩ = false)
          (first | (go_split_ands; exact tx_all (by assumption)) | (go_split_ands; exact tx_all (TxS.drew (by assumption))) | (go_split_ands; exact tx_all (TxS.step (by assumption) hbx)) | (go_split_ands; exact tx_all (TxS.set (TxS.set (TxS.set (by assumption) _ _) _ _) _ _)))
          (first | (go_at_call 20; refine (HJ.out _).mono ?_; rintro x w1 ⟨rfl, hbx⟩; have og : TxS _ _ _ _ _ _ _ := TxS.step (And.left (by assumption)) hbx))
        all_goals
          have c0 := (og.1.own 0 (by decide)).1
          have c1 := (og.1.own 1 (by decide)).1
          have c2 := (og.1.own 2 (by decide)).1
          have bl := (((og.1.set 0 (.int .i64 4)).set 1 (.int .i64 0)).set 2 (.string (sa ++ sb))).bel
          go_wp2_with fail
          exact bodyPost_ret (v := Out 4 0 (sa ++ sb) 0) (by simp [results, Try.results12, go_sem, c0, c1, c2]) rfl ⟨rfl, bl⟩
      · have tn : (T != 0) = true := by simpa using t1
        have hcmp := HC.out wr hlt HO0.out HO1.out hops
        rw [HN.out] at hcmp
        obtain ⟨n1, n2⟩ := N
        have HCM := Lib.hid hcmp
        clear HTT HTY HC HI hcmp hops
        go_wp2_with fail
        refine HCM.out.mono ?_
        rintro e w2 ⟨rfl, hb2⟩
        have HR2 := Lib.hid (HR.out.step hb2)
        clear z0 y0 z1 y1 z2 y2 hb2
        obtain ⟨⟨z0, y0⟩, ⟨z1, y1⟩, ⟨z2, y2⟩, ⟨z3, y3⟩, ⟨z4, y4⟩⟩ := do2_in HR2.out
        rcases hres with ⟨q, rfl⟩ | ⟨q, rfl⟩
        · go_wp2
          exact bodyPost_ret (v := Out 0 0 E0 n2) (by simp [results, Try.results12, go_sem, z0, z1, z2]) rfl ⟨rfl, rg_out 0 0 E0 HR2.out (Nat.le_refl _)⟩
        · have q' : n2 = 0 := q
          subst q'
          go_wp2
          exact bodyPost_ret (v := Out T n1 E0 0) (by simp [results, Try.results12, go_sem, z0, z1, z2]) rfl ⟨rfl, rg_out T n1 E0 HR2.out (Nat.le_refl _)⟩

end Go.Proofs.Ytceingfjdkpolaa
