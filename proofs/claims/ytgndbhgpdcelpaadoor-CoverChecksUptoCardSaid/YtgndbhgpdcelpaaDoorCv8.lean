/-
  Ends, locks ahead: contracts over the translation.
  Conditions: the row lies in memory.
-/
import Derived.Test.YtgndbhgpdcelpaaDoorCv7
import Derived.StillTailTactics
namespace Go.Proofs.YtgndbhgpdcelpaaDoor
set_option maxRecDepth 100000
open Go.RowKit Go.Joins Go.ChangeShapes Go.WideShapes
set_option linter.unusedVariables false
set_option linter.unusedSimpArgs false

/-- is there a halt at the end? -/
def enB (q : List Ins) : Bool := decide (1 ≤ q.length) && decide (q.length ≤ 4096) && (match q[q.length - 1]? with | some x => x.op == 12 | none => false)
set_option maxHeartbeats 8000000 in
theorem ends_any (w : World) (tb : ByteArray) (a : Option Addr) (cap : Nat) (q : List Ins) (h : RowA w a q) (hm : q.length ≤ 1048576) :
    Calls Tryd.prog 15 #[.agg #[.string tb, .slice a q.length cap]] w fun e w' => e = .returned (.bool (enB q)) ∧ Below w.heap.size w w' := by
  obtain ⟨R, hR⟩ : ∃ R, enB q = R := ⟨_, rfl⟩
  rw [hR]
  unfold enB at hR
  obtain ⟨n, hn⟩ : ∃ n, q.length = n := ⟨_, rfl⟩
  rw [hn] at hm hR ⊢
  obtain ⟨W1, hW1⟩ : ∃ W1, w.alloc (.cells #[.string tb, .slice a n cap] 37) = W1 := ⟨_, rfl⟩
  obtain ⟨HB1, z0, z1, hz, hbx⟩ := ck_box hW1
  have h1 := h.below HB1.out
  clear hz hbx h
  by_cases c1 : 1 ≤ n
  · by_cases c2 : n ≤ 4096
    · obtain ⟨x, hx⟩ : ∃ x, q[n - 1]? = some x := ⟨_, List.getElem?_eq_getElem (by omega)⟩
      obtain ⟨gb, off, rfl, -, hra⟩ := h1.at hx
      have f0 := hra 0 (.int .i64 x.op) rfl
      rw [Nat.add_zero] at f0
      have hk1 : ((n : Int) - 1).toNat = n - 1 := by omega
      have hk2 : (0 : Int) ≤ (n : Int) - 1 := by omega
      have hk3 : (n : Int) - 1 < (n : Int) := by omega
      rw [hx] at hR
      simp only [c1, c2, decide_true, Bool.true_and] at hR
      have c1' : (1 : Int) ≤ n := by omega
      have c2' : (n : Int) ≤ 4096 := by omega
      have HR := Lib.hid hR
      clear hR hx h1 hra
      go_enter Tryd.func15, Tryd.ntmps15
      cases R with
      | true =>
        have hb : (x.op == 12) = true := HR.out
        go_wp2_with fail
        go_ret
        exact ⟨rfl, HB1.out⟩
      | false =>
        have hb : (x.op == 12) = false := HR.out
        go_wp2_with fail
        go_ret
        exact ⟨rfl, HB1.out⟩
    · obtain rfl : R = false := by rw [← hR]; simp [c2]
      clear hR h1
      have c1' : (1 : Int) ≤ n := by omega
      go_enter Tryd.func15, Tryd.ntmps15
      go_wp2_with fail
      go_ret
      exact ⟨rfl, HB1.out⟩
  · obtain rfl : R = false := by rw [← hR]; simp [c1]
    clear hR h1
    have c1' : ¬ (1 : Int) ≤ n := by omega
    go_enter Tryd.func15, Tryd.ntmps15
    go_wp2_with fail
    go_ret
    exact ⟨rfl, HB1.out⟩
/-- the predicate 'no lock' -/
theorem nolockp (w : World) (g : Nat) (hbx : Bx w g #[.func (.func 27) #[] #[]] 48) : PrB 29 #[.pointer (some ⟨g, 0, none⟩)] (fun x => !(x.op == 1)) w := by
  intro W x hW
  have hb0 := hbx.below hW
  have HFI := Lib.hid (fun (V : World) => islock_any x V)
  obtain ⟨wb, hwb⟩ : ∃ wb, W.alloc (.cells x.enc.toArray 33) = wb := ⟨_, rfl⟩
  have hbi : Bx wb W.heap.size x.enc.toArray 33 := by rw [← hwb]; exact Bx.new _ _ _
  have hab : Below W.heap.size W wb := by rw [← hwb]; exact (Below.refl _ _).alloc (Nat.le_refl _) _
  have HBB := Lib.hid hab
  have hb1 := hb0.below hab
  have y0 : wb.cell? ⟨g, 0, none⟩ = some (.func (.func 27) #[] #[]) := hb1.cell rfl
  have HLX := Lib.hid (ld_I (b := W.heap.size) (o := 0) (x := x) fun j v hj => by rw [Nat.zero_add]; exact hbi.cell (by simpa using hj))
  rw [show x.enc.toArray = #[.int .i64 x.op, .int .i64 x.c, .int .i64 x.jt, .int .i64 x.mode, .int .i64 x.part, .string x.tab, .int .i64 x.idx, .slice x.lo.a x.lo.n x.lo.c, .slice x.hi.a x.hi.n x.hi.c, .bool x.lx, .bool x.hx, .slice x.e.a x.e.n x.e.c, .int .i64 x.n, .slice x.ds.a x.ds.n x.ds.c] from rfl] at hwb
  show Calls Tryd.prog _ #[x.val, .pointer (some ⟨g, 0, none⟩)] W fun e w' => e = .returned (.bool (!(x.op == 1))) ∧ Below W.heap.size W w'
  obtain ⟨F, hF⟩ : ∃ F, (x.op == 1) = F := ⟨_, rfl⟩
  rw [hF] at HFI ⊢
  obtain ⟨X, hX⟩ : ∃ X, x.val = X := ⟨_, rfl⟩
  rw [hX] at HFI HLX
  unfold Ins.val
  clear hX hbi hab hb0 hb1 hbx hF
  go_enter Tryd.func29, Tryd.ntmps29
  go_wp2_with (refine wpLd rfl _ rfl rfl HLX.out ?_; clear HLX)
  refine (HFI.out _).mono ?_
  rintro e w' ⟨rfl, hb⟩
  have HB2 := Lib.hid (btr HBB.out hb HBB.out.size)
  clear hb
  go_wp2_with fail
  go_ret
  exact ⟨rfl, HB2.out⟩
theorem lockp (w : World) : PrB 27 #[] (fun x => x.op == 1) w := fun W x hW => islock_any x W
/-- do all locks stand ahead? -/
def fsB (q : List Ins) : Bool := !(q.drop (q.takeWhile fun x => !(!(x.op == 1))).length).any fun x => x.op == 1

end Go.Proofs.YtgndbhgpdcelpaaDoor
