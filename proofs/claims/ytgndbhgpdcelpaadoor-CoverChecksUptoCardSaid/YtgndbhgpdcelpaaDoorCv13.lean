/-
  Whether all reading is covered: a contract over the translation.
  Conditions: the row lies in memory.
-/
import Derived.Test.YtgndbhgpdcelpaaDoorCv12
namespace Go.Proofs.YtgndbhgpdcelpaaDoor
set_option maxRecDepth 100000
open Go.RowKit Go.Joins Go.ChangeShapes Go.WideShapes
set_option linter.unusedVariables false
set_option linter.unusedSimpArgs false

def rdB (q : List Ins) : Bool := ccB q 0 && ccB q 1 && ccB q 2 && ccB q 3
theorem rdB_no {q : List Ins} {k : Nat} (hk : k < 4) (h : ccB q k = false) : rdB q = false := by
  unfold rdB
  match k, hk with
  | 0, _ => rw [show ccB q 0 = false from h]; rfl
  | 1, _ => rw [show ccB q 1 = false from h]; simp
  | 2, _ => rw [show ccB q 2 = false from h]; simp
  | 3, _ => rw [show ccB q 3 = false from h]; simp
theorem rdB_yes {q : List Ins} (h : ∀ j : Nat, j < 4 → ccB q j = true) : rdB q = true := by
  unfold rdB
  rw [show ccB q 0 = true from h 0 (by decide), show ccB q 1 = true from h 1 (by decide), show ccB q 2 = true from h 2 (by decide), show ccB q 3 = true from h 3 (by decide)]
  rfl
set_option maxHeartbeats 4000000 in
theorem reading_any (w : World) (hT : TabB w 0 cvL) (tb : ByteArray) (a : Option Addr) (cap : Nat) (q : List Ins) (h : RowA w a q) (hm : q.length ≤ 1048576) :
    Calls Tryd.prog 18 #[.agg #[.string tb, .slice a q.length cap]] w fun e w' => e = .returned (.bool (rdB q)) ∧ Below w.heap.size w w' := by
  obtain ⟨W1, hW1⟩ : ∃ W1, w.alloc (.cells #[.string tb, .slice a q.length cap] 37) = W1 := ⟨_, rfl⟩
  obtain ⟨HB1, z0, z1, hz, hbx⟩ := ck_box hW1
  have HCU := Lib.hid (fun (V : World) (hV : Below W1.heap.size W1 V) (c : Int) => cursor_any V (hT.below (HB1.out.trans (hV.mono HB1.out.size))) tb a cap q (h.below (HB1.out.trans (hV.mono HB1.out.size))) hm c)
  obtain ⟨R, hR⟩ : ∃ R, rdB q = R := ⟨_, rfl⟩
  have HR := Lib.hid hR
  rw [hR]
  generalize q.length = n at *
  have HBX := Lib.hid (fun (V : World) (hV : Below W1.heap.size W1 V) => hbx.below hV)
  clear hR hz hbx h hT
  go_enter Tryd.func18, Tryd.ntmps18
  go_wp2_with fail
  try rw [hW1]
  clear hW1
  go_loopw [4] (fun i wr => ∃ k : Nat, k ≤ 4 ∧ i = .int .i64 k ∧ Hid (Below W1.heap.size W1 wr) ∧ Hid (∀ j : Nat, j < k → ccB q j = true)) (fun i _ => 4 - (intOf i).toNat)
  case atStart => exact ⟨0, Nat.zero_le _, rfl, Below.refl _ _, fun j hj => absurd hj (by omega)⟩
  case round =>
    obtain ⟨k, hk, rfl, HB, HK⟩ := hrel
    have y0 : wr.cell? ⟨w.heap.size, 0, none⟩ = some (.string tb) := (HBX.out wr HB.out).cell rfl
    have y1 : wr.cell? ⟨w.heap.size, 1, none⟩ = some (.slice a n cap) := (HBX.out wr HB.out).cell rfl
    have HC := Lib.hid (HCU.out wr HB.out k)
    by_cases c : k < 4
    · have c1 : (k : Int) < 4 := by omega
      cases cb : ccB q k with
      | false =>
        rw [cb] at HC
        have HF := Lib.hid (show R = false by rw [← HR.out]; exact rdB_no c cb)
        clear cb
        go_wp2_with fail
        refine HC.out.mono ?_
        rintro e w' ⟨rfl, hb⟩
        have HB2 := Lib.hid (btr HB1.out (btr HB.out hb HB.out.size) HB1.out.size)
        clear hb
        go_wp2_with fail
        go_ret
        exact ⟨by rw [HF.out]; rfl, HB2.out⟩
      | true =>
        rw [cb] at HC
        have HK2 : Hid (∀ j : Nat, j < k + 1 → ccB q j = true) := by
          intro j hj
          by_cases e : j = k
          · rw [e]; exact cb
          · exact HK.out j (by omega)
        clear cb
        go_wp2_with fail
        refine HC.out.mono ?_
        rintro e w' ⟨rfl, hb⟩
        have HB2 := Lib.hid (btr HB.out hb HB.out.size)
        clear hb
        go_wp2_with fail
        go_roundw
        case rel => exact ⟨k + 1, by omega, by go_num, HB2, HK2⟩
        case measure => simp [intOf]; omega
    · obtain rfl : k = 4 := by omega
      have HF := Lib.hid (show R = true by rw [← HR.out]; exact rdB_yes HK.out)
      have HB2 := Lib.hid (HB1.out.trans (HB.out.mono HB1.out.size))
      go_wp2_with fail
      go_ret
      exact ⟨by rw [HF.out]; rfl, HB2.out⟩

end Go.Proofs.YtgndbhgpdcelpaaDoor
