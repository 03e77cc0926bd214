/-
  Locks ahead: a contract over the translation.
  Conditions: the row lies in memory.
-/
import Derived.Test.YtgndbhgpdcelpaaDoorCv8
import Derived.Laws.EntriesVeiled
namespace Go.Proofs.YtgndbhgpdcelpaaDoor
set_option maxRecDepth 100000
open Go.RowKit Go.Joins Go.ChangeShapes Go.WideShapes
set_option linter.unusedVariables false
set_option linter.unusedSimpArgs false

theorem tw_stop {α : Type} {p : α → Bool} {q : List α} {x : α} (hx : x ∈ q) (hp : p x = true) : (q.takeWhile fun y => !p y).length < q.length := by
  induction q with
  | nil => cases hx
  | cons a r ih =>
    cases ha : p a with
    | true =>
      rw [List.takeWhile_cons_of_neg (by simp [ha])]
      simp
    | false =>
      rw [List.takeWhile_cons_of_pos (by simp [ha])]
      rcases List.mem_cons.1 hx with rfl | hx
      · rw [ha] at hp; cases hp
      · simp only [List.length_cons]
        have := ih hx
        omega
set_option maxHeartbeats 8000000 in
theorem first_any (w : World) (tb : ByteArray) (a : Option Addr) (cap : Nat) (q : List Ins) (h : RowA w a q) (hm : q.length ≤ 1048576) (hc : q.length ≤ cap) (hlast : ∃ x ∈ q, (x.op == 1) = false) :
    Calls Tryd.prog 17 #[.agg #[.string tb, .slice a q.length cap]] w fun e w' => e = .returned (.bool (fsB q)) ∧ Below w.heap.size w w' := by
  obtain ⟨x, hxm, hx1⟩ := hlast
  have hstop := tw_stop (p := fun x => !(x.op == 1)) hxm (by simp [hx1])
  obtain ⟨k, hk⟩ : ∃ k, (q.takeWhile fun x => !(!(x.op == 1))).length = k := ⟨_, rfl⟩
  have hidx : fidx (fun x => !(x.op == 1)) q = (k : Nat) := by unfold fidx; rw [if_neg (Nat.ne_of_lt hstop), hk]
  obtain ⟨R, hR⟩ : ∃ R, fsB q = R := ⟨_, rfl⟩
  rw [hR]
  unfold fsB at hR
  rw [hk] at hR
  replace hstop : k < q.length := by rw [← hk]; exact hstop
  obtain ⟨W1, hW1⟩ : ∃ W1, w.alloc (.cells #[.string tb, .slice a q.length cap] 37) = W1 := ⟨_, rfl⟩
  obtain ⟨HB1, z0, z1, hz, hbx⟩ := ck_box hW1
  obtain ⟨W2, hW2⟩ : ∃ W2, W1.alloc (.cells #[.func (.func 27) #[] #[]] 48) = W2 := ⟨_, rfl⟩
  have hb2 : Below W1.heap.size W1 W2 := by rw [← hW2]; exact (Below.refl _ _).alloc (Nat.le_refl _) _
  have hx2 : Bx W2 W1.heap.size #[.func (.func 27) #[] #[]] 48 := by rw [← hW2]; exact Bx.new _ _ _
  have HB2 := Lib.hid (btr HB1.out hb2 HB1.out.size)
  have h2 := h.below HB2.out
  have hbx2 := hbx.below hb2
  have y0 : W2.cell? ⟨w.heap.size, 0, none⟩ = some (.string tb) := hbx2.cell rfl
  have y1 : W2.cell? ⟨w.heap.size, 1, none⟩ = some (.slice a q.length cap) := hbx2.cell rfl
  have y2 : W2.cell? ⟨W1.heap.size, 0, none⟩ = some (.func (.func 27) #[] #[]) := hx2.cell rfl
  have HIX := Lib.hid (idxf_any W2 a cap q h2 (by omega) _ _ _ (nolockp W2 W1.heap.size hx2) (enters_of Tryd.func29 (by kernel_rfl) rfl))
  rw [hidx] at HIX
  have HBX2 := Lib.hid hbx2
  have HX2 := Lib.hid hx2
  have HH := Lib.hid h2
  have HR := Lib.hid hR
  obtain ⟨n, hn⟩ : ∃ n, q.length = n := ⟨_, rfl⟩
  rw [hn] at hm hc hstop y1 HIX HBX2 hW1 ⊢
  have HN := Lib.hid hn
  have HZ := Lib.hid hz
  clear hidx hk hx1 hxm hR hz hbx hb2 hx2 h2 hbx2 hn h z0 z1
  go_enter Tryd.func17, Tryd.ntmps17
  go_wp2_with fail
  refine HIX.out.mono ?_
  rintro e w3 ⟨rfl, hb3⟩
  obtain ⟨gb, off, rfl, -, -⟩ := HH.out.at (i := 0) (x := q[0]'(by have := HN.out; omega)) (List.getElem?_eq_getElem _)
  have hx3 := HBX2.out.below hb3
  have y0 : w3.cell? ⟨w.heap.size, 0, none⟩ = some (.string tb) := hx3.cell rfl
  have y1 : w3.cell? ⟨w.heap.size, 1, none⟩ = some (.slice (some ⟨gb, off, none⟩) n cap) := hx3.cell rfl
  have y2 : w3.cell? ⟨W1.heap.size, 0, none⟩ = some (.func (.func 27) #[] #[]) := (HX2.out.below hb3).cell rfl
  have HB3 := Lib.hid (btr HB2.out hb3 HB2.out.size)
  have hrow := (HH.out.below hb3).drop k
  have HCF := Lib.hid (fun (W : World) (hW : Below w3.heap.size w3 W) => contf_any W (some ⟨gb, off + k * 14, none⟩) (cap - k) (q.drop k) (hrow.below hW) (by rw [List.length_drop, HN.out]; omega) _ _ _ (lockp W) (enters_of Tryd.func27 (by kernel_rfl) rfl))
  rw [List.length_drop, HN.out] at HCF
  obtain ⟨Y, hY⟩ : ∃ Y, ((q.drop k).any fun x => x.op == 1) = Y := ⟨_, rfl⟩
  rw [hY] at HCF
  have HRY := Lib.hid (show (!Y) = R by rw [← hY]; exact HR.out)
  clear hb3 hx3 hrow hY HIX
  have hk0 : (0 : Int) ≤ (k : Int) := by omega
  have hkn : (k : Int) ≤ (n : Int) := by omega
  have hkc : (k : Int) ≤ (cap : Int) := by omega
  have hkc2 : ¬ (cap = k) := by omega
  go_wp2_with fail
  go_still_tail 6, (by kernel_rfl)
  change wpList _ _ _ _ _ w3.drew
  have HB4 := Lib.hid (show Below w3.heap.size w3 w3.drew from (Below.refl _ _).drew)
  have HC4 := Lib.hid (HCF.out _ HB4.out)
  generalize w3.drew = w4 at *
  clear HCF
  go_wp2_with fail
  refine HC4.out.mono ?_
  rintro e w5 ⟨rfl, hb5⟩
  have HB5 := Lib.hid (btr HB3.out (btr HB4.out hb5 HB4.out.size) HB3.out.size)
  clear hb5
  go_wp2_with fail
  go_ret
  exact ⟨by rw [← HRY.out]; rfl, HB5.out⟩

end Go.Proofs.YtgndbhgpdcelpaaDoor
