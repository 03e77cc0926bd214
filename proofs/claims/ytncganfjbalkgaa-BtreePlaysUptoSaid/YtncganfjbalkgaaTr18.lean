/-
  Cursors: seek, Seek, Next: contracts over the translation.
  Conditions: the tree and the cursor lie in memory.
-/
import Derived.Test.YtncganfjbalkgaaTr17
namespace Go.Proofs.Ytncganfjbalkgaa
open Go.RowKit Go.Joins Go.ChangeShapes Go.WideShapes
set_option linter.unusedVariables false

/-- a cursor: it stands at a key, or at the end -/
def CurAt (w : World) (c t : Nat) (st : Option (List Nat)) : Prop :=
  ∃ s b, w.heap[c]? = some (.cells #[.pointer (some ⟨t, 0, none⟩), .string s, .bool b] 73 (0, 0)) ∧ ((b = false ∧ st = some (sl s)) ∨ (b = true ∧ st = none))
theorem CurAt.step {w w1 : World} {c t : Nat} {st : Option (List Nat)} {F : Bl} (h : CurAt w c t st) (hf : Frm F w w1) (hc : ¬ F c) : CurAt w1 c t st := by
  obtain ⟨s, b, h1, h2⟩ := h
  exact ⟨s, b, (hf.heap (Array.getElem?_eq_some_iff.1 h1).1 hc).trans h1, h2⟩
theorem CurAt.lt {w : World} {c t : Nat} {st : Option (List Nat)} (h : CurAt w c t st) : c < w.heap.size := by
  obtain ⟨s, b, h1, h2⟩ := h
  exact (Array.getElem?_eq_some_iff.1 h1).1
def seekSt (es : List Ent) (k : List Nat) : Option (List Nat) := (es[(ePl es k).1]?).map (·.1)
theorem cur_put {w : World} {g : Nat} {a b c y z : Value} (h : w.heap[g]? = some (.cells #[a, b, c] 73 (0, 0))) : ((w.setCell ⟨g, 1, none⟩ y).setCell ⟨g, 2, none⟩ z).heap[g]? = some (.cells #[a, y, z] 73 (0, 0)) := by
  have h2 : (w.setCell ⟨g, 1, none⟩ y).heap[g]? = some (.cells #[a, y, c] 73 (0, 0)) := by rw [setCell_eq_setRow _ g 1 #[a, b, c] _ _ y h, setRow_heap _ g _ _ _ _ h]; rfl
  rw [setCell_eq_setRow _ g 2 #[a, y, c] _ _ z h2, setRow_heap _ g _ _ _ _ h2]; rfl

set_option maxHeartbeats 4000000 in
set_option maxRecDepth 100000 in
theorem cseek_any (B : Nat) (w : World) (F : Bl) (t : Nat) (es : List Ent) (h : TrX B w F t es) (c : Nat) (x1 x2 : Value) (hc : w.heap[c]? = some (.cells #[.pointer (some ⟨t, 0, none⟩), x1, x2] 73 (0, 0))) (s : ByteArray) :
    Calls Try.prog 31 #[.pointer (some ⟨c, 0, none⟩), .string s] w fun e w' => e = .returned (.tuple #[]) ∧ Frm (fun k => k = c) w w' ∧ CurAt w' c t (seekSt es (sl s)) := by
  generalize hP : (fun (e : Ending) (w' : World) => e = .returned (.tuple #[]) ∧ Frm (fun k => k = c) w w' ∧ CurAt w' c t (seekSt es (sl s))) = P
  have HP := Lib.hid hP
  obtain ⟨d, Fr, g, ps, h1, h2, h3, h4, h5, h6, rfl⟩ := h
  have HFR := Lib.hid (from_d B s d w Fr g [] ps es h2 h3 (nklt_nil _))
  have x0 : w.cell? ⟨t, 0, none⟩ = some (.pointer (some ⟨g, 0, none⟩)) := by rw [cell_of_block h1]; rfl
  have y0 : w.cell? ⟨c, 0, none⟩ = some (.pointer (some ⟨t, 0, none⟩)) := by rw [cell_of_block hc]; rfl
  have lc : c < w.heap.size := (Array.getElem?_eq_some_iff.1 hc).1
  have HC := Lib.hid (show ∀ wx, Below w.heap.size w wx → (wx.cell? ⟨c, 1, none⟩ = some x1 ∧ wx.cell? ⟨c, 2, none⟩ = some x2 ∧ wx.frozen? ⟨c, 1, none⟩ = false ∧ wx.frozen? ⟨c, 2, none⟩ = false) ∧ wx.heap[c]? = some (.cells #[.pointer (some ⟨t, 0, none⟩), x1, x2] 73 (0, 0)) by
    intro wx hb
    have hh := (hb.block c lc).trans hc
    exact ⟨⟨by rw [cell_of_block hh]; rfl, by rw [cell_of_block hh]; rfl, unfrozen_of_block hh 1, unfrozen_of_block hh 2⟩, hh⟩)
  have HF2 := Lib.hid (show Calls Try.prog 36 #[.pointer (some ⟨g, 0, none⟩), .string s] w fun e w3 => Below w.heap.size w w3 ∧ ∃ (u : ByteArray) (n : Int) (b : Bool), e = .returned (.tuple #[.agg #[.string u, .int .i64 n, .pointer none], .bool b]) ∧ ((b = true ∧ es[(ePl es (sl s)).1]? = some (sl u, n)) ∨ (b = false ∧ es[(ePl es (sl s)).1]? = none)) by
    refine HFR.out.mono ?_
    rintro e w3 ⟨b3, hx⟩
    refine ⟨b3, ?_⟩
    rcases hx with ⟨x, u, q1, q2, rfl⟩ | ⟨q1, rfl⟩
    · exact ⟨u, x.2, true, rfl, .inl ⟨rfl, by rw [q1, q2]⟩⟩
    · exact ⟨_, _, false, rfl, .inr ⟨rfl, q1⟩⟩)
  have HFIN := Lib.hid (show ∀ w3 u b o, Below w.heap.size w w3 → ((b = true ∧ ∃ n, es[(ePl es (sl s)).1]? = some (sl u, n)) ∨ (b = false ∧ es[(ePl es (sl s)).1]? = none)) → P (.returned (.tuple #[])) (((w3.setCell ⟨c, 1, none⟩ (.string u)).setCell ⟨c, 2, none⟩ (.bool (!b))).alloc o) by
    intro w3 u b o hb hx
    have hh := (HC.out w3 hb).2
    rw [← HP.out]
    have hcur : CurAt ((w3.setCell ⟨c, 1, none⟩ (.string u)).setCell ⟨c, 2, none⟩ (.bool (!b))) c t (seekSt es (sl s)) := by
      refine ⟨u, !b, cur_put hh, ?_⟩
      rcases hx with ⟨rfl, n, q⟩ | ⟨rfl, q⟩
      · exact .inl ⟨rfl, by unfold seekSt; rw [q]; rfl⟩
      · exact .inr ⟨rfl, by unfold seekSt; rw [q]; rfl⟩
    have hf : Frm (fun k => k = c) w ((w3.setCell ⟨c, 1, none⟩ (.string u)).setCell ⟨c, 2, none⟩ (.bool (!b))) := Frm.setCell (F := fun k => k = c) (Frm.setCell (F := fun k => k = c) (Frm.of_below hb) (.inl rfl) 1 _) (.inl rfl) 2 _
    exact ⟨rfl, hf.alloc o, hcur.step (Frm.of_below (F := fun _ => False) ((Below.refl _ _).alloc (Nat.le_refl _) o)) (fun h => h)⟩)
  clear hP h1 h2 h4 h5 hc
  go_enter Try.func31, Try.ntmps31
  go_wp2_with (go_at_call 36; refine HF2.out.mono ?_; rintro e w3 ⟨b3, u, n, b, rfl, hx⟩; obtain ⟨⟨c1, c2, f1, f2⟩, -⟩ := HC.out _ b3; have HX := Lib.hid (And.intro b3 hx); have lc3 : c < w3.heap.size := Nat.lt_of_lt_of_le lc b3.size; clear hx b3)
  exact bodyPost_ret (v := .tuple #[]) (by simp [results, Try.results31, go_sem]) rfl (HFIN.out _ _ _ _ HX.out.1 (by
    rcases HX.out.2 with ⟨q1, q2⟩ | ⟨q1, q2⟩
    · exact .inl ⟨q1, n, q2⟩
    · exact .inr ⟨q1, q2⟩))

set_option maxHeartbeats 4000000 in
set_option maxRecDepth 100000 in
theorem tseek_any (B : Nat) (w : World) (F : Bl) (t : Nat) (es : List Ent) (h : TrX B w F t es) (R : Bl) (u : Value) (k : List Nat) (hu : KeyAt w R u k) :
    Calls Try.prog 9 #[.pointer (some ⟨t, 0, none⟩), u] w fun e w' => ∃ c, e = .returned (.pointer (some ⟨c, 0, none⟩)) ∧ w.heap.size ≤ c ∧ Below w.heap.size w w' ∧ CurAt w' c t (seekSt es k) := by
  generalize hP : (fun (e : Ending) (w' : World) => ∃ c, e = .returned (.pointer (some ⟨c, 0, none⟩)) ∧ w.heap.size ≤ c ∧ Below w.heap.size w w' ∧ CurAt w' c t (seekSt es k)) = P
  have HP := Lib.hid hP
  have hks : sl (strB k) = k := sl_strB hu.choose_spec.choose_spec.choose_spec.choose_spec.2.2.lt
  obtain ⟨W1, hW1⟩ : ∃ W1, w.alloc (.cells #[.pointer (some ⟨t, 0, none⟩), .string ⟨#[]⟩, .bool false] 73) = W1 := ⟨_, rfl⟩
  have b1 : Below w.heap.size w W1 := by rw [← hW1]; exact (Below.refl _ _).alloc (Nat.le_refl _) _
  have p1 : W1.heap[w.heap.size]? = some (.cells #[.pointer (some ⟨t, 0, none⟩), .string ⟨#[]⟩, .bool false] 73 (0, 0)) := by rw [← hW1]; exact heap_alloc_new w _
  have hst : (convert 29 9 u).run Try.prog W1 = .ok (.string (strB k)) W1 := (hu.step (Frm.of_below (F := fun _ => False) b1) (fun _ _ h => h)).str
  have HS := Lib.hid (cseek_any B W1 F t es (h.below b1) w.heap.size _ _ p1 (strB k))
  rw [hks] at HS
  have HFIN := Lib.hid (show ∀ wx, Frm (fun k => k = w.heap.size) W1 wx → CurAt wx w.heap.size t (seekSt es k) → P (.returned (.pointer (some ⟨w.heap.size, 0, none⟩))) wx by
    intro wx hf hc
    rw [← HP.out]
    exact ⟨_, rfl, Nat.le_refl _, ((Frm.of_below (F := fun k => w.heap.size ≤ k) b1).trans (F1 := fun k => k = w.heap.size) hf (fun k hk => .inl (by omega))).below (fun k hk => hk) (Nat.le_refl _), hc⟩)
  have HW := Lib.hid hW1
  obtain ⟨a, m, cap, eu⟩ : ∃ a m cap, u = .slice a m cap := by obtain ⟨a, b, off, cap, e, -⟩ := hu; exact ⟨a, _, cap, e⟩
  subst eu
  obtain ⟨z, hz⟩ : ∃ z, w.heap.size = z := ⟨_, rfl⟩
  have HZ := Lib.hid hz
  rw [hz] at HS HFIN
  clear hP h hu hks b1 p1 hW1 hz
  go_enter Try.func9, Try.ntmps9
  go_upto_region 2 with fail
  rw [HW.out, HZ.out]
  go_wp2_with (go_at_call 31; refine HS.out.mono ?_; rintro e w3 ⟨rfl, f3, c3⟩; have HX := Lib.hid (HFIN.out _ f3 c3); clear f3 c3)
  exact HX.out

theorem sl_cat (s : ByteArray) : sl (s ++ ⟨#[0]⟩) = sl s ++ [0] := by
  unfold sl
  rw [ByteArray.data_append]
  simp

set_option maxHeartbeats 4000000 in
set_option maxRecDepth 100000 in
theorem cnext_any (B : Nat) (w : World) (F : Bl) (t : Nat) (es : List Ent) (h : TrX B w F t es) (c : Nat) (st : Option (List Nat)) (hc : CurAt w c t st) (hsz : ∀ k, st = some k → k.length ≤ 17592186044416) :
    Calls Try.prog 20 #[.pointer (some ⟨c, 0, none⟩)] w fun e w' => e = .returned (.bool ((st.bind fun k => seekSt es (k ++ [0])).isSome)) ∧ Frm (fun k => k = c) w w' ∧ CurAt w' c t (st.bind fun k => seekSt es (k ++ [0])) := by
  generalize hP : (fun (e : Ending) (w' : World) => e = .returned (.bool ((st.bind fun k => seekSt es (k ++ [0])).isSome)) ∧ Frm (fun k => k = c) w w' ∧ CurAt w' c t (st.bind fun k => seekSt es (k ++ [0]))) = P
  have HP := Lib.hid hP
  have HCC := Lib.hid hc
  obtain ⟨s, b, h1, h2⟩ := hc
  have y1 : w.cell? ⟨c, 1, none⟩ = some (.string s) := by rw [cell_of_block h1]; rfl
  have y2 : w.cell? ⟨c, 2, none⟩ = some (.bool b) := by rw [cell_of_block h1]; rfl
  rcases h2 with ⟨rfl, rfl⟩ | ⟨rfl, rfl⟩
  · have HS := Lib.hid (cseek_any B w F t es h c _ _ h1 (s ++ ⟨#[0]⟩))
    rw [sl_cat] at HS
    have hss : s.size ≤ 17592186044416 := by have := hsz _ rfl; rw [sl_length] at this; exact this
    have HFIN := Lib.hid (show ∀ wx, Frm (fun k => k = c) w wx → CurAt wx c t (seekSt es (sl s ++ [0])) → P (.returned (.bool (seekSt es (sl s ++ [0])).isSome)) wx by
      intro wx hf hc
      rw [← HP.out]
      exact ⟨rfl, hf, hc⟩)
    clear hP h h1 hsz HCC
    obtain ⟨st2, hst2⟩ : ∃ x, seekSt es (sl s ++ [0]) = x := ⟨_, rfl⟩
    rw [hst2] at HS HFIN
    clear hst2
    go_enter Try.func20, Try.ntmps20
    go_wp2_with (go_at_call 31; refine HS.out.mono ?_; rintro e w3 ⟨rfl, f3, c3⟩; have HX := Lib.hid (HFIN.out _ f3 c3); obtain ⟨s3, b3, h3, h4⟩ := c3; have y3 := (show w3.cell? ⟨c, 2, none⟩ = some (.bool b3) by rw [cell_of_block h3]; rfl); have H4 := Lib.hid h4; clear f3 h3 h4)
    have hx := HX.out
    rcases H4.out with ⟨rfl, rfl⟩ | ⟨rfl, rfl⟩ <;> exact hx
  · have HFIN := Lib.hid (show P (.returned (.bool false)) w by
      rw [← HP.out]
      exact ⟨rfl, Frm.refl _ _, HCC.out⟩)
    clear hP h h1 hsz HCC
    go_enter Try.func20, Try.ntmps20
    go_wp2_with fail
    exact HFIN.out

end Go.Proofs.Ytncganfjbalkgaa
