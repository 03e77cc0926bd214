/-
  Cursors: Entry: a contract over the translation.
  Conditions: the tree and the cursor lie in memory.
-/
import Derived.Test.YtncganfjbalkgaaTr18
namespace Go.Proofs.Ytncganfjbalkgaa
open Go.RowKit Go.Joins Go.ChangeShapes Go.WideShapes
set_option linter.unusedVariables false
set_option linter.unusedSimpArgs false

/-- what Entry answers -/
def EntPost (w : World) (es : List Ent) (st : Option (List Nat)) (e : Ending) (w' : World) : Prop :=
  Below w.heap.size w w' ∧ ((∃ k n v, st = some k ∧ (ePl es k).2 = true ∧ es[(ePl es k).1]? = some (k, n) ∧ OwK w' w.heap.size v k ∧ e = .returned (.tuple #[.agg #[v, .int .i64 n], .bool true])) ∨
    ((∀ k, st = some k → (ePl es k).2 = false) ∧ e = .returned (.tuple #[.agg #[.slice none 0 0, .int .i64 0], .bool false])))

set_option maxHeartbeats 4000000 in
set_option maxRecDepth 100000 in
theorem centry_any (B : Nat) (w : World) (F : Bl) (t : Nat) (es : List Ent) (h : TrX B w F t es) (c : Nat) (st : Option (List Nat)) (hc : CurAt w c t st) :
    Calls Try.prog 27 #[.pointer (some ⟨c, 0, none⟩)] w (EntPost w es st) := by
  generalize hP : EntPost w es st = P
  have HP := Lib.hid hP
  obtain ⟨W1, hW1, hb, hz1, hzc⟩ := zboxE w
  have hT := h.below hb
  obtain ⟨s, b, h1, h2⟩ := hc.step (Frm.of_below (F := fun _ => False) hb) (fun h => h)
  have y0 : W1.cell? ⟨c, 0, none⟩ = some (.pointer (some ⟨t, 0, none⟩)) := by rw [cell_of_block h1]; rfl
  have y1 : W1.cell? ⟨c, 1, none⟩ = some (.string s) := by rw [cell_of_block h1]; rfl
  have y2 : W1.cell? ⟨c, 2, none⟩ = some (.bool b) := by rw [cell_of_block h1]; rfl
  have lc : c < W1.heap.size := (Array.getElem?_eq_some_iff.1 h1).1
  obtain ⟨z, hz⟩ : ∃ z, w.heap.size = z := ⟨_, rfl⟩
  rw [hz] at hzc hz1
  have HZ := Lib.hid hz
  have HZC := Lib.hid hzc
  have HB := Lib.hid hb
  have HW := Lib.hid hW1
  have FIN := Lib.hid (show ∀ wx, Below W1.heap.size W1 wx → Below z w wx by
    intro wx hbx
    have hq := HZ.out
    subst hq
    exact HB.out.trans (hbx.mono (by omega)))
  obtain ⟨c0, c1, f0, f1⟩ := hzc W1 (Below.refl _ _)
  rcases h2 with ⟨rfl, rfl⟩ | ⟨rfl, rfl⟩
  · have HG := Lib.hid (show ∀ wx, Below W1.heap.size W1 wx → Calls Try.prog 40 #[.pointer (some ⟨t, 0, none⟩), .string s] wx fun e w3 => Below wx.heap.size wx w3 ∧ ∃ (u : ByteArray) (n : Int) (b : Bool), e = .returned (.tuple #[.agg #[.string u, .int .i64 n, .pointer none], .bool b]) ∧ ((b = true ∧ (ePl es (sl s)).2 = true ∧ sl u = sl s ∧ es[(ePl es (sl s)).1]? = some (sl s, n)) ∨ (b = false ∧ (ePl es (sl s)).2 = false)) by
      intro wx hbx
      refine (tget0_any B wx F t es (hT.below hbx) s).mono ?_
      rintro e w3 ⟨b3, hx⟩
      refine ⟨b3, ?_⟩
      rcases hx with ⟨q1, n, u, q2, q3, rfl⟩ | ⟨q1, rfl⟩
      · exact ⟨u, n, true, rfl, .inl ⟨rfl, q1, q3, q2⟩⟩
      · exact ⟨_, _, false, rfl, .inr ⟨rfl, q1⟩⟩)
    have HOK := Lib.hid (show ∀ wx v n, (ePl es (sl s)).2 = true → es[(ePl es (sl s)).1]? = some (sl s, n) → OwK wx z v (sl s) → Below z w wx → P (.returned (.tuple #[.agg #[v, .int .i64 n], .bool true])) wx by
      intro wx v n q1 hx ho hbx
      rw [← HP.out]
      exact ⟨by rw [HZ.out]; exact hbx, .inl ⟨sl s, n, v, rfl, q1, hx, by rw [HZ.out]; exact ho, rfl⟩⟩)
    have HNO := Lib.hid (show ∀ wx, (ePl es (sl s)).2 = false → Below z w wx → P (.returned (.tuple #[.agg #[.slice none 0 0, .int .i64 0], .bool false])) wx by
      intro wx hx hbx
      rw [← HP.out]
      exact ⟨by rw [HZ.out]; exact hbx, .inr ⟨fun k hk => by injection hk with hk; rw [← hk]; exact hx, rfl⟩⟩)
    clear hP h h1 hb hzc hW1 hz hT hc c0 c1 f0 f1
    go_enter Try.func27, Try.ntmps27
    go_upto_region 1 with fail
    rw [HW.out, HZ.out]
    go_upto_region 3 with fail
    go_cut [5, 4, 2] (fun q6 q5 q4 wx => ∃ (u : ByteArray) (n : Int) (b : Bool) (g6 : Nat), q6 = .bool b ∧ q5 = .pointer (some ⟨g6, 0, none⟩) ∧ q4 = .pointer (some ⟨z, 0, none⟩) ∧ (Below W1.heap.size W1 wx ∧ wx.heap[g6]? = some (.cells #[.string u, .int .i64 n, .pointer none] 77 (0, 0))) ∧ ((b = true ∧ (ePl es (sl s)).2 = true ∧ sl u = sl s ∧ es[(ePl es (sl s)).1]? = some (sl s, n)) ∨ (b = false ∧ (ePl es (sl s)).2 = false)))
    case first =>
      go_region_law (first
        | (go_simp; go_at_call 40; (with_reducible refine (HG.out W1.drew ((Below.refl _ _).drew)).mono ?_); rintro e w3 ⟨b3, s', n, b, rfl, hx⟩; have HX := Lib.hid (And.intro (box_late (stepB ((Below.refl _ _).drew) b3) s' n) hx); clear hx b3)
        | (go_simp; go_at_call 40; refine (HG.out (W1.alloc (.cells #[.string ⟨#[]⟩, .int .i64 0, .pointer none] 77)).drew (((Below.refl _ _).alloc (Nat.le_refl _) _).drew)).mono ?_; rintro e w3 ⟨b3, s', n, b, rfl, hx⟩; obtain ⟨hq, c3, c4, c5, f3, f4, f5⟩ := box_early rfl b3 s' n; have HX := Lib.hid (And.intro hq hx); clear hq hx b3))
      all_goals
        go_wp2_with fail
        go_meet
        exact ⟨_, _, _, _, rfl, rfl, rfl, HX.out.1, HX.out.2⟩
    case rest =>
      obtain ⟨u, n, b, g6, rfl, rfl, rfl, ⟨b4, p4⟩, hx⟩ := hcut
      have x0 : wc.cell? ⟨g6, 0, none⟩ = some (.string u) := by rw [cell_of_block p4]; rfl
      have x1 : wc.cell? ⟨g6, 1, none⟩ = some (.int .i64 n) := by rw [cell_of_block p4]; rfl
      have x2 : wc.cell? ⟨g6, 2, none⟩ = some (.pointer none) := by rw [cell_of_block p4]; rfl
      obtain ⟨c0, c1, f0, f1⟩ := HZC.out _ b4
      have hsz := b4.size
      have HB4 := Lib.hid b4
      have HX := Lib.hid hx
      clear b4 p4 hx
      rcases HX.out with ⟨rfl, q1, q2, q3⟩ | ⟨rfl, q1⟩
      · have HQ := Lib.hid (And.intro q1 (And.intro q2 q3))
        clear q1 q2 q3 HX
        have HPE := Lib.hid (pentry_any wc u n)
        unfold PtV at HPE
        go_wp2_with (go_at_call 37; refine HPE.out.mono ?_; rintro e w5 ⟨v5, rfl, o5, b5⟩; obtain ⟨g5, cp5, rfl, ho5⟩ := o5; have b6 := stepB HB4.out b5; obtain ⟨c0, c1, f0, f1⟩ := HZC.out _ b6; have HB6 := Lib.hid b6; have HO5 := Lib.hid ho5; have HB5 := Lib.hid b5; clear b5 b6 ho5)
        refine bodyPost_ret (v := .tuple #[.agg #[.slice (some ⟨g5, 0, none⟩) (sl u).length cp5, .int .i64 n], .bool true]) (by simp [results, Try.results27, go_sem, c0, c1, f0, f1]) rfl (HOK.out _ _ n HQ.out.1 HQ.out.2.2 ?_ ?_)
        · have ho : OwK w5 wc.heap.size (.slice (some ⟨g5, 0, none⟩) (sl u).length cp5) (sl u) := ⟨g5, cp5, rfl, HO5.out⟩
          have ho2 := (ho.step (F := fun k => k = z) ((Frm.set1 (F := fun k => k = z) w5 rfl 0 (.slice (some ⟨g5, 0, none⟩) (sl u).length cp5)).setCell (.inl rfl) 1 (.int .i64 n)) (fun k hk e => by have := (ho.lt k hk).1; omega)).le (show z ≤ wc.heap.size by omega)
          rw [HQ.out.2.1] at ho2 ⊢
          exact ho2
        · refine (Below.setCell ?_ (Nat.le_refl z) _).setCell (Nat.le_refl z) _
          exact FIN.out _ HB6.out
      · have HQ := Lib.hid q1
        clear q1 HX
        go_wp2_with fail
        refine bodyPost_ret (v := .tuple #[.agg #[.slice none 0 0, .int .i64 0], .bool false]) (by simp [results, Try.results27, go_sem, c0, c1, f0, f1]) rfl (HNO.out _ HQ.out ?_)
        refine (Below.setCell ?_ (Nat.le_refl z) _).setCell (Nat.le_refl z) _
        exact FIN.out _ HB4.out
  · have HFIN := Lib.hid (show ∀ wx, Below z w wx → P (.returned (.tuple #[.agg #[.slice none 0 0, .int .i64 0], .bool false])) wx by
      intro wx hbx
      rw [← HP.out]
      exact ⟨by rw [HZ.out]; exact hbx, .inr ⟨(fun k hk => by cases hk), rfl⟩⟩)
    clear hP h h1 hb hzc hW1 hz hT hc
    go_enter Try.func27, Try.ntmps27
    go_upto_region 1 with fail
    rw [HW.out, HZ.out]
    go_wp2_with fail
    refine bodyPost_ret (v := .tuple #[.agg #[.slice none 0 0, .int .i64 0], .bool false]) (by simp [results, Try.results27, go_sem, c0, c1, f0, f1]) rfl (HFIN.out _ ?_)
    refine (Below.setCell ?_ (Nat.le_refl z) _).setCell (Nat.le_refl z) _
    exact FIN.out _ (Below.refl _ _)

end Go.Proofs.Ytncganfjbalkgaa
