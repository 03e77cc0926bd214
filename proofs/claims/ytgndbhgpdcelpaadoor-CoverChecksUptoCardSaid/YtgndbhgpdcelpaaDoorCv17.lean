/-
  The check of a plan: a contract over the translation.
  Conditions: the row lies in memory.
-/
import Derived.Test.YtgndbhgpdcelpaaDoorCv16
namespace Go.Proofs.YtgndbhgpdcelpaaDoor
set_option maxRecDepth 100000
open Go.RowKit Go.Joins Go.ChangeShapes Go.WideShapes
set_option linter.unusedVariables false
set_option linter.unusedSimpArgs false

/-- the rules, as they lie in memory -/
def rlV : List Value := [.func (.func 15) #[] #[], .func (.func 16) #[] #[], .func (.func 17) #[] #[], .func (.func 18) #[] #[], .func (.func 19) #[] #[]]
theorem rules_any (w : World) : Calls Tryd.prog 11 #[] w fun e w' => e = .returned (.slice (some ⟨w.heap.size, 0, none⟩) 5 5) ∧ Bx w' w.heap.size rlV.toArray 40 ∧ Below w.heap.size w w' := by
  have HN := Lib.hid (Bx.new w rlV.toArray 40)
  have HB := Lib.hid (show Below w.heap.size w (w.alloc (.cells rlV.toArray 40)) from (Below.refl _ _).alloc (Nat.le_refl _) _)
  go_enter Tryd.func11, Tryd.ntmps11
  go_wp2_with fail
  go_ret
  exact ⟨rfl, HN.out, HB.out⟩
/-- one rule -/
theorem rule_any (w : World) (hT : TabB w 0 cvL) (tb : ByteArray) (a : Option Addr) (cap : Nat) (q : List Ins) (h : RowA w a q) (hm : q.length ≤ 1048576) (hc : q.length ≤ cap) (k : Nat) (hk : k < 5) (hb : ∀ j, j < k → rlB tb q j = true) :
    ∃ F : FuncId, rlV[k]? = some (.func (.func F) #[] #[]) ∧ (∀ args w, (callFunc F args).run Tryd.prog w = .ok (.enter F args) w) ∧ Calls Tryd.prog F #[.agg #[.string tb, .slice a q.length cap]] w fun e w' => e = .returned (.bool (rlB tb q k)) ∧ Below w.heap.size w w' := by
  match k, hk with
  | 0, _ => exact ⟨_, rfl, enters_of Tryd.func15 (by kernel_rfl) rfl, ends_any w tb a cap q h hm⟩
  | 1, _ => exact ⟨_, rfl, enters_of Tryd.func16 (by kernel_rfl) rfl, well_any w tb a cap q h hm⟩
  | 2, _ =>
    obtain ⟨x, hx, h12⟩ := en_last (hb 0 (by decide))
    exact ⟨_, rfl, enters_of Tryd.func17 (by kernel_rfl) rfl, first_any w tb a cap q h hm hc ⟨x, List.mem_of_getElem? hx, by rw [beq_iff_eq] at h12; simp [h12]⟩⟩
  | 3, _ => exact ⟨_, rfl, enters_of Tryd.func18 (by kernel_rfl) rfl, reading_any w hT tb a cap q h hm⟩
  | 4, _ => exact ⟨_, rfl, enters_of Tryd.func19 (by kernel_rfl) rfl, changing_any w hT tb a cap q h hm hc (en_last (hb 0 (by decide)))⟩
def erI (b : Bool) : Int := if b then 0 else 240
set_option maxHeartbeats 8000000 in
theorem check_any (w : World) (hT : TabB w 0 cvL) (tb : ByteArray) (a : Option Addr) (cap : Nat) (q : List Ins) (h : RowA w a q) (hm : q.length ≤ 1048576) (hc : q.length ≤ cap) :
    Calls Tryd.prog 8 #[.agg #[.string tb, .slice a q.length cap]] w fun e w' => e = .returned (.int .i64 (erI (ckB tb q))) ∧ Below w.heap.size w w' := by
  obtain ⟨W1, hW1⟩ : ∃ W1, w.alloc (.cells #[.string tb, .slice a q.length cap] 25) = W1 := ⟨_, rfl⟩
  obtain ⟨HB1, z0, z1, hz, hbx⟩ := ck_box hW1
  obtain ⟨W2, hW2⟩ : ∃ W2, W1.alloc (.cells #[.string tb, .slice a q.length cap] 37) = W2 := ⟨_, rfl⟩
  obtain ⟨HB2, z2, z3, hz2, hbx2⟩ := ck_box hW2
  have HB12 := Lib.hid (btr HB1.out HB2.out HB1.out.size)
  have HRU := Lib.hid (rules_any W2)
  have HON := Lib.hid (fun (V : World) (hV : Below W2.heap.size W2 V) => rule_any V (hT.below (btr HB12.out hV HB12.out.size)) tb a cap q (h.below (btr HB12.out hV HB12.out.size)) hm hc)
  have HBX := Lib.hid (fun (V : World) (hV : Below W2.heap.size W2 V) => hbx2.below hV)
  obtain ⟨R, hR⟩ : ∃ R, ckB tb q = R := ⟨_, rfl⟩
  have HR := Lib.hid hR
  rw [hR]
  generalize q.length = n at *
  clear hR hz hbx hz2 hbx2 h hT
  go_enter Tryd.func8, Tryd.ntmps8
  go_wp2_with fail
  refine HRU.out.mono ?_
  rintro e w3 ⟨rfl, hrb, hb3⟩
  have HRB := Lib.hid (fun (V : World) (hV : Below w3.heap.size w3 V) => hrb.below hV)
  have HB3 := Lib.hid hb3
  clear hrb hb3 HRU
  go_wp2_with fail
  go_loopw [10] (fun i wr => ∃ k : Nat, k ≤ 5 ∧ i = .int .i64 k ∧ Hid (Below w3.heap.size w3 wr) ∧ Hid (∀ j : Nat, j < k → rlB tb q j = true)) (fun i _ => 5 - (intOf i).toNat)
  case atStart => exact ⟨0, Nat.zero_le _, rfl, Below.refl _ _, fun j hj => absurd hj (by omega)⟩
  case round =>
    obtain ⟨k, hk, rfl, HB, HK⟩ := hrel
    have hb2 := btr HB3.out HB.out HB3.out.size
    have y0 : wr.cell? ⟨W1.heap.size, 0, none⟩ = some (.string tb) := (HBX.out wr hb2).cell rfl
    have y1 : wr.cell? ⟨W1.heap.size, 1, none⟩ = some (.slice a n cap) := (HBX.out wr hb2).cell rfl
    by_cases c : k < 5
    · have c1 : (k : Int) < 5 := by omega
      obtain ⟨F, hF, eg, hcall⟩ := HON.out wr hb2 k c HK.out
      have y2 : wr.cell? ⟨W2.heap.size, k, none⟩ = some (.func (.func F) #[] #[]) := (HRB.out wr HB.out).cell (by simpa using hF)
      have HC := Lib.hid hcall
      clear hb2 hF hcall
      cases cb : rlB tb q k with
      | false =>
        rw [cb] at HC
        have HF := Lib.hid (show R = false by rw [← HR.out]; exact rl_no c cb)
        clear cb
        go_wp2_with fail
        refine HC.out.mono ?_
        rintro e w' ⟨rfl, hb⟩
        have HB4 := Lib.hid (btr HB12.out (btr HB3.out (btr HB.out hb HB.out.size) HB3.out.size) HB12.out.size)
        clear hb
        go_wp2_with fail
        go_ret
        exact ⟨by rw [HF.out]; rfl, HB4.out⟩
      | true =>
        rw [cb] at HC
        have HK2 : Hid (∀ j : Nat, j < k + 1 → rlB tb q j = true) := by
          intro j hj
          by_cases e : j = k
          · rw [e]; exact cb
          · exact HK.out j (by omega)
        clear cb
        go_wp2_with fail
        refine HC.out.mono ?_
        rintro e w' ⟨rfl, hb⟩
        have HB4 := Lib.hid (btr HB.out hb HB.out.size)
        clear hb
        go_wp2_with fail
        go_roundw
        case rel => exact ⟨k + 1, by omega, by go_num, HB4, HK2⟩
        case measure => simp [intOf]; omega
    · obtain rfl : k = 5 := by omega
      have HF := Lib.hid (show R = true by rw [← HR.out]; exact rl_yes HK.out)
      have HB4 := Lib.hid (btr HB12.out (btr HB3.out HB.out HB3.out.size) HB12.out.size)
      clear hb2
      go_wp2_with fail
      go_ret
      exact ⟨by rw [HF.out]; rfl, HB4.out⟩

end Go.Proofs.YtgndbhgpdcelpaaDoor
