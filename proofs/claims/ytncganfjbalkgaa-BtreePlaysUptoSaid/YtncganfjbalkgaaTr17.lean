/-
  The tree as the program hands it out: From: a contract over the translation.
  Conditions: the tree lies in memory.
-/
import Derived.Test.YtncganfjbalkgaaTr16
namespace Go.Proofs.Ytncganfjbalkgaa
open Go.RowKit Go.Joins Go.ChangeShapes Go.WideShapes
set_option linter.unusedVariables false
set_option linter.unusedSimpArgs false

/-- an empty entry that has just been made -/
theorem zboxE (w : World) : ∃ W1, w.alloc (.cells #[.slice none 0 0, .int .i64 0] 42) = W1 ∧ Below w.heap.size w W1 ∧ w.heap.size < W1.heap.size ∧ ∀ wx, Below W1.heap.size W1 wx →
    wx.cell? ⟨w.heap.size, 0, none⟩ = some (.slice none 0 0) ∧ wx.cell? ⟨w.heap.size, 1, none⟩ = some (.int .i64 0) ∧ wx.frozen? ⟨w.heap.size, 0, none⟩ = false ∧ wx.frozen? ⟨w.heap.size, 1, none⟩ = false := by
  refine ⟨_, rfl, (Below.refl _ _).alloc (Nat.le_refl _) _, by simp, fun wx hb => ?_⟩
  have hnew : wx.heap[w.heap.size]? = some (.cells #[.slice none 0 0, .int .i64 0] 42 (0, 0)) := by
    rw [hb.block _ (by simp)]; exact heap_alloc_new w _
  refine ⟨?_, ?_, unfrozen_of_block hnew 0, unfrozen_of_block hnew 1⟩ <;> rw [cell_of_block hnew] <;> rfl
def FromE (w : World) (es : List Ent) (k : List Nat) (e : Ending) (w' : World) : Prop :=
  Below w.heap.size w w' ∧ ((∃ x v, es[(ePl es k).1]? = some x ∧ OwK w' w.heap.size v x.1 ∧ e = .returned (.tuple #[.agg #[v, .int .i64 x.2], .bool true])) ∨ (es[(ePl es k).1]? = none ∧ e = .returned (.tuple #[.agg #[.slice none 0 0, .int .i64 0], .bool false])))
theorem OwK.step {w w1 : World} {base : Nat} {v : Value} {l : List Nat} {F : Bl} (h : OwK w base v l) (hf : Frm F w w1) (hd : ∀ k, v.ownBlock = some k → ¬ F k) : OwK w1 base v l := by
  obtain ⟨g, cap, rfl, h1, h2, h3, h4, h5⟩ := h
  have hg := hd g rfl
  exact ⟨g, cap, rfl, h1, Nat.lt_of_lt_of_le h2 hf.size, fun i x hx => (hf.cell h2 hg i).trans (h3 i x hx), fun i hi => (hf.frozen h2 hg i).trans (h4 i hi), h5⟩
theorem OwK.le {w : World} {base b' : Nat} {v : Value} {l : List Nat} (h : OwK w base v l) (hb : b' ≤ base) : OwK w b' v l := by
  obtain ⟨g, cap, e, h1, h2⟩ := h
  exact ⟨g, cap, e, Nat.le_trans hb h1, h2⟩

theorem part_put {w : World} {g : Nat} {a b c x y z : Value} (h : w.heap[g]? = some (.cells #[a, b, c] 77 (0, 0))) : (((w.setCell ⟨g, 0, none⟩ x).setCell ⟨g, 1, none⟩ y).setCell ⟨g, 2, none⟩ z).heap[g]? = some (.cells #[x, y, z] 77 (0, 0)) := by
  have h1 : (w.setCell ⟨g, 0, none⟩ x).heap[g]? = some (.cells #[x, b, c] 77 (0, 0)) := by rw [setCell_eq_setRow w g 0 #[a, b, c] _ _ x h, setRow_heap w g _ _ _ _ h]; rfl
  have h2 : ((w.setCell ⟨g, 0, none⟩ x).setCell ⟨g, 1, none⟩ y).heap[g]? = some (.cells #[x, y, c] 77 (0, 0)) := by rw [setCell_eq_setRow _ g 1 #[x, b, c] _ _ y h1, setRow_heap _ g _ _ _ _ h1]; rfl
  rw [setCell_eq_setRow _ g 2 #[x, y, c] _ _ z h2, setRow_heap _ g _ _ _ _ h2]; rfl
/-- a part's box that was made ahead of a call, or behind it -/
theorem box_late {W w3 : World} (hb : Below W.heap.size W w3) (s : ByteArray) (n : Int) : Below W.heap.size W (w3.alloc (.cells #[.string s, .int .i64 n, .pointer none] 77)) ∧ (w3.alloc (.cells #[.string s, .int .i64 n, .pointer none] 77)).heap[w3.heap.size]? = some (.cells #[.string s, .int .i64 n, .pointer none] 77 (0, 0)) :=
  ⟨hb.alloc hb.size _, heap_alloc_new _ _⟩
theorem box_early {W w2 w3 : World} (h2 : w2 = (W.alloc (.cells #[.string ⟨#[]⟩, .int .i64 0, .pointer none] 77)).drew) (hb : Below w2.heap.size w2 w3) (s : ByteArray) (n : Int) :
    (Below W.heap.size W (((w3.setCell ⟨W.heap.size, 0, none⟩ (.string s)).setCell ⟨W.heap.size, 1, none⟩ (.int .i64 n)).setCell ⟨W.heap.size, 2, none⟩ (.pointer none)) ∧ (((w3.setCell ⟨W.heap.size, 0, none⟩ (.string s)).setCell ⟨W.heap.size, 1, none⟩ (.int .i64 n)).setCell ⟨W.heap.size, 2, none⟩ (.pointer none)).heap[W.heap.size]? = some (.cells #[.string s, .int .i64 n, .pointer none] 77 (0, 0))) ∧
    (w3.cell? ⟨W.heap.size, 0, none⟩ = some (.string ⟨#[]⟩) ∧ w3.cell? ⟨W.heap.size, 1, none⟩ = some (.int .i64 0) ∧ w3.cell? ⟨W.heap.size, 2, none⟩ = some (.pointer none) ∧ w3.frozen? ⟨W.heap.size, 0, none⟩ = false ∧ w3.frozen? ⟨W.heap.size, 1, none⟩ = false ∧ w3.frozen? ⟨W.heap.size, 2, none⟩ = false) := by
  have hs : w2.heap.size = W.heap.size + 1 := by rw [h2]; simp [World.drew, -World.drew_eq]
  have hn : w3.heap[W.heap.size]? = some (.cells #[.string ⟨#[]⟩, .int .i64 0, .pointer none] 77 (0, 0)) := by
    rw [hb.block _ (by omega), h2]
    exact heap_alloc_new W _
  refine ⟨⟨?_, part_put hn⟩, ?_, ?_, ?_, unfrozen_of_block hn 0, unfrozen_of_block hn 1, unfrozen_of_block hn 2⟩
  · refine ((Below.setCell ?_ (Nat.le_refl W.heap.size) _).setCell (Nat.le_refl W.heap.size) _).setCell (Nat.le_refl W.heap.size) _
    have : Below W.heap.size W w2 := by rw [h2]; exact ((Below.refl _ _).alloc (Nat.le_refl _) _).drew
    exact this.trans (hb.mono (by omega))
  all_goals (rw [cell_of_block hn]; rfl)

set_option maxHeartbeats 4000000 in
set_option maxRecDepth 100000 in
theorem tfrom_any (B : Nat) (w : World) (F : Bl) (t : Nat) (es : List Ent) (h : TrX B w F t es) (R : Bl) (u : Value) (k : List Nat) (hu : KeyAt w R u k) :
    Calls Try.prog 16 #[.pointer (some ⟨t, 0, none⟩), u] w (FromE w es k) := by
  generalize hP : FromE w es k = P
  have HP := Lib.hid hP
  have hks : sl (strB k) = k := sl_strB hu.choose_spec.choose_spec.choose_spec.choose_spec.2.2.lt
  obtain ⟨W1, hW1, hb, hz1, hzc⟩ := zboxE w
  have hst : (convert 29 9 u).run Try.prog W1.drew = .ok (.string (strB k)) W1.drew := (hu.step (Frm.of_below (F := fun _ => False) hb) (fun _ _ h => h)).strN 1
  have hst2 : (convert 29 9 u).run Try.prog (W1.alloc (.cells #[.string ⟨#[]⟩, .int .i64 0, .pointer none] 77)).drew = .ok (.string (strB k)) (W1.alloc (.cells #[.string ⟨#[]⟩, .int .i64 0, .pointer none] 77)).drew := (hu.step (Frm.of_below (F := fun _ => False) (hb.alloc hb.size _)) (fun _ _ h => h)).strN 1
  obtain ⟨d, Fr, g, ps, h1, h2, h3, h4, h5, h6, rfl⟩ := h.below hb
  have HFR := Lib.hid (fun wx (hb : Below W1.heap.size W1 wx) => from_d B (strB k) d wx Fr g [] ps es (h2.below hb) h3 (nklt_nil _))
  rw [hks] at HFR
  have x0 : W1.cell? ⟨t, 0, none⟩ = some (.pointer (some ⟨g, 0, none⟩)) := by rw [cell_of_block h1]; rfl
  have ltW : t < W1.heap.size := (Array.getElem?_eq_some_iff.1 h1).1
  obtain ⟨z, hz⟩ : ∃ z, w.heap.size = z := ⟨_, rfl⟩
  rw [hz] at hzc hz1
  have HZ := Lib.hid hz
  have HZC := Lib.hid hzc
  have HB := Lib.hid hb
  have HW := Lib.hid hW1
  have FIN := Lib.hid (show ∀ wx, Below W1.heap.size W1 wx → Below z w wx by
    intro wx hbx
    have hq := HZ.out
    subst hq
    exact HB.out.trans (hbx.mono (by omega)))
  have HF2 := Lib.hid (show ∀ wx, Below W1.heap.size W1 wx → Calls Try.prog 36 #[.pointer (some ⟨g, 0, none⟩), .string (strB k)] wx fun e w3 => Below wx.heap.size wx w3 ∧ ∃ (u : ByteArray) (n : Int) (b : Bool), e = .returned (.tuple #[.agg #[.string u, .int .i64 n, .pointer none], .bool b]) ∧ ((b = true ∧ es[(ePl es k).1]? = some (sl u, n)) ∨ (b = false ∧ es[(ePl es k).1]? = none)) by
    intro wx hbx
    refine (HFR.out wx hbx).mono ?_
    rintro e w3 ⟨b3, hx⟩
    refine ⟨b3, ?_⟩
    rcases hx with ⟨x, u, q1, q2, rfl⟩ | ⟨q1, rfl⟩
    · exact ⟨u, x.2, true, rfl, .inl ⟨rfl, by rw [q1, q2]⟩⟩
    · exact ⟨_, _, false, rfl, .inr ⟨rfl, q1⟩⟩)
  have HOK := Lib.hid (show ∀ wx v s n, es[(ePl es k).1]? = some (sl s, n) → OwK wx z v (sl s) → Below z w wx → P (.returned (.tuple #[.agg #[v, .int .i64 n], .bool true])) wx by
    intro wx v s n hx ho hbx
    rw [← HP.out]
    exact ⟨by rw [HZ.out]; exact hbx, .inl ⟨(sl s, n), v, hx, by rw [HZ.out]; exact ho, rfl⟩⟩)
  have HNO := Lib.hid (show ∀ wx, es[(ePl es k).1]? = none → Below z w wx → P (.returned (.tuple #[.agg #[.slice none 0 0, .int .i64 0], .bool false])) wx by
    intro wx hx hbx
    rw [← HP.out]
    exact ⟨by rw [HZ.out]; exact hbx, .inr ⟨hx, rfl⟩⟩)
  obtain ⟨a, m, cap, eu⟩ : ∃ a m cap, u = .slice a m cap := by obtain ⟨a, b, off, cap, e, -⟩ := hu; exact ⟨a, _, cap, e⟩
  subst eu
  clear hP h h1 h2 h4 h5 hb hzc hW1 hz hu hks
  go_enter Try.func16, Try.ntmps16
  go_upto_region 1 with fail
  rw [HW.out, HZ.out]
  go_cut [7, 6, 4] (fun q6 q5 q4 wx => ∃ (s : ByteArray) (n : Int) (b : Bool) (g6 : Nat), q6 = .bool b ∧ q5 = .pointer (some ⟨g6, 0, none⟩) ∧ q4 = .pointer (some ⟨z, 0, none⟩) ∧ (Below W1.heap.size W1 wx ∧ wx.heap[g6]? = some (.cells #[.string s, .int .i64 n, .pointer none] 77 (0, 0))) ∧ ((b = true ∧ es[(ePl es k).1]? = some (sl s, n)) ∨ (b = false ∧ es[(ePl es k).1]? = none)))
  case first =>
    go_region_law (first
      | (go_simp; go_at_call 36; (with_reducible refine (HF2.out W1.drew ((Below.refl _ _).drew)).mono ?_); rintro e w3 ⟨b3, s, n, b, rfl, hx⟩; have HX := Lib.hid (And.intro (box_late (stepB ((Below.refl _ _).drew) b3) s n) hx); clear hx b3)
      | (go_simp; go_at_call 36; refine (HF2.out (W1.alloc (.cells #[.string ⟨#[]⟩, .int .i64 0, .pointer none] 77)).drew (((Below.refl _ _).alloc (Nat.le_refl _) _).drew)).mono ?_; rintro e w3 ⟨b3, s, n, b, rfl, hx⟩; obtain ⟨hq, c3, c4, c5, f3, f4, f5⟩ := box_early rfl b3 s n; have HX := Lib.hid (And.intro hq hx); clear hq hx b3))
    all_goals
      go_wp2_with fail
      go_meet
      exact ⟨_, _, _, _, rfl, rfl, rfl, HX.out.1, HX.out.2⟩
  case rest =>
    obtain ⟨s, n, b, g6, rfl, rfl, rfl, ⟨b4, p4⟩, hx⟩ := hcut
    have y0 : wc.cell? ⟨g6, 0, none⟩ = some (.string s) := by rw [cell_of_block p4]; rfl
    have y1 : wc.cell? ⟨g6, 1, none⟩ = some (.int .i64 n) := by rw [cell_of_block p4]; rfl
    have y2 : wc.cell? ⟨g6, 2, none⟩ = some (.pointer none) := by rw [cell_of_block p4]; rfl
    obtain ⟨c0, c1, f0, f1⟩ := HZC.out _ b4
    have hsz := b4.size
    have HB4 := Lib.hid b4
    have HX := Lib.hid hx
    clear b4 p4 hx
    rcases HX.out with ⟨rfl, q1⟩ | ⟨rfl, q1⟩
    · have HQ := Lib.hid q1
      clear q1 HX
      have HPE := Lib.hid (pentry_any wc s n)
      unfold PtV at HPE
      go_wp2_with (go_at_call 37; refine HPE.out.mono ?_; rintro e w5 ⟨v5, rfl, o5, b5⟩; obtain ⟨g5, cp5, rfl, ho5⟩ := o5; have b6 := stepB HB4.out b5; obtain ⟨c0, c1, f0, f1⟩ := HZC.out _ b6; have HB6 := Lib.hid b6; have HO5 := Lib.hid ho5; have HB5 := Lib.hid b5; clear b5 b6 ho5)
      refine bodyPost_ret (v := .tuple #[.agg #[.slice (some ⟨g5, 0, none⟩) (sl s).length cp5, .int .i64 n], .bool true]) (by simp [results, Try.results16, go_sem, c0, c1, f0, f1]) rfl (HOK.out _ _ s n HQ.out ?_ ?_)
      · have ho : OwK w5 wc.heap.size (.slice (some ⟨g5, 0, none⟩) (sl s).length cp5) (sl s) := ⟨g5, cp5, rfl, HO5.out⟩
        refine (ho.step (F := fun k => k = z) ((Frm.set1 (F := fun k => k = z) w5 rfl 0 _).setCell (.inl rfl) 1 _) (fun k hk e => ?_)).le (by omega)
        have := (ho.lt k hk).1
        omega
      · refine (Below.setCell ?_ (Nat.le_refl z) _).setCell (Nat.le_refl z) _
        exact FIN.out _ HB6.out
    · have HQ := Lib.hid q1
      clear q1 HX
      go_wp2_with fail
      refine bodyPost_ret (v := .tuple #[.agg #[.slice none 0 0, .int .i64 0], .bool false]) (by simp [results, Try.results16, go_sem, c0, c1, f0, f1]) rfl (HNO.out _ HQ.out ?_)
      refine (Below.setCell ?_ (Nat.le_refl z) _).setCell (Nat.le_refl z) _
      exact FIN.out _ HB4.out

end Go.Proofs.Ytncganfjbalkgaa
