/-
  Name and signs (layer 12): contracts over the translation.
  Conditions: none.
-/
import Derived.Test.YtlhipnklljjahaaDoorLx3
import Derived.Lib.ConvBytes
namespace Go.Proofs.YtlhipnklljjahaaDoor
set_option maxRecDepth 100000
open Go.RowKit Go.Joins Go.ChangeShapes Go.WideShapes
set_option linter.unusedVariables false
set_option linter.unusedSimpArgs false

/-- a text's bytes in a block of their own -/
theorem conv_b (s : ByteArray) (w : World) (hs : s.size ≤ maxLen) : ∃ cap w1, (convert 9 27 (.string s)).run Tryd.prog w = .ok (.slice (some ⟨w.heap.size, 0, none⟩) s.size cap) w1 ∧ s.size ≤ cap ∧ cap ≤ maxLen ∧ w1.heap.size = w.heap.size + 1 ∧ Below w.heap.size w w1 ∧ IsB w1 w.heap.size 0 (sl s) := by
  refine ⟨grownCap w s.size 0 5, Lib.bytesWorld w 5 s, Lib.run_convert_string_bytes w 9 27 5 s Tryd.underlying9 Tryd.underlying27 Tryd.underlying5, grownCap_ge _ _ _ _, grownCap_le_maxLen _ _ _ _ hs, Lib.bytesWorld_size _ _ _, ⟨rfl, rfl, rfl, by rw [Lib.bytesWorld_size]; omega, fun k hk => Lib.bytesWorld_at_old w _ s k hk⟩, ⟨fun _ => by rw [Lib.bytesWorld_size]; omega, fun i x hx => ?_, sl_lt s⟩⟩
  have hi : i < s.size := by rw [← sl_length]; exact (List.getElem?_eq_some_iff.1 hx).1
  rw [Nat.zero_add, Lib.bytesWorld_cell w _ s i hi]
  unfold sl at hx
  rw [List.getElem?_map] at hx
  rw [List.getD_eq_getElem?_getD]
  cases e : s.data.toList[i]? with
  | none => rw [e] at hx; cases hx
  | some b => rw [e] at hx; injection hx with hx; rw [← hx]; rfl
/-- whether a text can be a name -/
def nameB (s : ByteArray) : Bool := !(s.size == 0) && decide (s.size ≤ 32) && bwL ((sl s).headD 0) && !resB s && runL inL (sl s) == s.size
theorem sl_head {s : ByteArray} (h : 0 < s.size) : (sl s).headD 0 = s[0].toNat := by
  unfold sl
  have : 0 < s.data.toList.length := by simpa using h
  rw [List.headD_eq_head?_getD, List.head?_map, List.head?_eq_getElem?, List.getElem?_eq_getElem this]
  rfl
set_option maxHeartbeats 4000000 in
theorem name_any (s : ByteArray) (w : World) : Calls Tryd.prog 9 #[.string s] w fun e w' => e = .returned (.bool (nameB s)) ∧ Below w.heap.size w w' := by
  obtain ⟨r, hr⟩ : ∃ r, nameB s = r := ⟨_, rfl⟩
  rw [hr]
  have HN := Lib.hid hr
  have HR := Lib.hid (res_any s w)
  have HB := Lib.hid (begins_any)
  have hl := sl_head (s := s)
  have HL := Lib.hid hl
  clear hl hr
  go_enter Tryd.func9, Tryd.ntmps9
  by_cases c0 : s.size = 0
  · have e0 : s = ByteArray.empty := ByteArray.ext (Array.eq_empty_of_size_eq_zero c0)
    subst e0
    have hr := HN.out
    have : nameB ByteArray.empty = false := rfl
    rw [this] at hr
    subst hr
    go_wp2_with fail
    go_ret
    exact ⟨rfl, Below.refl _ _⟩
  have hp : 0 < s.size := by omega
  have hb := HL.out hp
  generalize hx : s[0].toNat = x at *
  have hx8 : x < 256 := by rw [← hx]; exact s[0].toNat_lt
  have HB1 := Lib.hid (HB.out x w hx8)
  by_cases c1 : s.size ≤ 32
  · cases c2 : bwL x with
    | false =>
      rw [c2] at HB1
      have hr := HN.out
      have : nameB s = false := by unfold nameB; rw [hb, c2]; simp
      rw [this] at hr
      subst hr
      go_wp2_with (first | (go_at_call 14; refine HB1.out.mono ?_; rintro e w' ⟨rfl, rfl⟩))
      go_ret
      exact ⟨rfl, Below.refl _ _⟩
    | true =>
      rw [c2] at HB1
      cases c3 : resB s with
      | true =>
        rw [c3] at HR
        have hr := HN.out
        have : nameB s = false := by unfold nameB; rw [c3]; simp
        rw [this] at hr
        subst hr
        go_wp2_with (first | (go_at_call 14; refine HB1.out.mono ?_; rintro e w' ⟨rfl, rfl⟩) | (go_at_call 8; refine HR.out.mono ?_; rintro e w' ⟨rfl, rfl⟩))
        go_ret
        exact ⟨rfl, Below.refl _ _⟩
      | false =>
        rw [c3] at HR
        obtain ⟨cap, w1, hc, _, _, _, b1, is1⟩ := conv_b s w (Nat.le_trans c1 (by decide))
        have HG := Lib.hid (run_any inname_any (enters_of Tryd.func16 (by kernel_rfl) rfl) w1 (some ⟨w.heap.size, 0, none⟩) w.heap.size 0 cap (sl s) (.inr rfl) is1 (by rw [sl_length]; omega))
        rw [sl_length] at HG
        have B1 := Lib.hid b1
        have hr := HN.out
        have : nameB s = (runL inL (sl s) == s.size) := by unfold nameB; rw [hb, c2, c3, decide_eq_true c1]; simp [c0]
        rw [this] at hr
        have HE := Lib.hid (show ((runL inL (sl s) : Int) == (s.size : Int)) = r by rw [← hr]; exact eqi _ _)
        clear b1 is1 hr this
        generalize runL inL (sl s) = q at HG HE
        go_wp2_with (first | (go_at_call 14; refine HB1.out.mono ?_; rintro e w' ⟨rfl, rfl⟩) | (go_at_call 8; refine HR.out.mono ?_; rintro e w' ⟨rfl, rfl⟩) | (go_at_call 15; refine HG.out.mono ?_; rintro e w' ⟨rfl, b2⟩))
        · exfalso
          rename_i _ q2
          rcases q2 with h | h
          · exact c0 (by have := eq_of_beq h; omega)
          · omega
        · rename_i b2
          go_ret
          exact ⟨by rw [HE.out]; rfl, B1.out.trans (b2.mono B1.out.size)⟩
  · have hr := HN.out
    have : nameB s = false := by unfold nameB; rw [decide_eq_false c1]; simp
    rw [this] at hr
    subst hr
    go_wp2_with fail
    go_ret
    exact ⟨rfl, Below.refl _ _⟩

end Go.Proofs.YtlhipnklljjahaaDoor
