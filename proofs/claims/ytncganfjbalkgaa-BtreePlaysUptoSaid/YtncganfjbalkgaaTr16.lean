/-
  The tree as the program hands it out: get, Get, From: contracts over the translation.
  Conditions: the tree lies in memory.
-/
import Derived.Test.YtncganfjbalkgaaTr15
import Derived.Lib.ConvBytes
namespace Go.Proofs.Ytncganfjbalkgaa
open Go.RowKit Go.Joins Go.ChangeShapes Go.WideShapes
set_option linter.unusedVariables false
set_option linter.unusedSimpArgs false

/-- what get answers: the entry of a key -/
def GetPost (w : World) (es : List Ent) (k : List Nat) (e : Ending) (w' : World) : Prop :=
  Below w.heap.size w w' ∧ (((ePl es k).2 = true ∧ ∃ n s, es[(ePl es k).1]? = some (k, n) ∧ sl s = k ∧ e = .returned (.tuple #[PtV s n, .bool true])) ∨ ((ePl es k).2 = false ∧ e = .returned (.tuple #[PtV ⟨#[]⟩ 0, .bool false])))

theorem ePl_hit {es : List Ent} {k : List Nat} {x : Ent} (hx : es[(ePl es k).1]? = some x) : (ePl es k).2 = decide (x.1 = k) := by
  have h := ((ePlN_first k es 0).2.1 x (by simpa [ePl] using hx)).2
  change (ePl es k).2 = decide (ordB x.1 k = 0) at h
  rw [h, decide_eq_decide]
  exact ⟨ob_zero _ _, fun e => by rw [e]; exact ob_self _⟩
theorem ePl_miss {es : List Ent} {k : List Nat} (hx : es[(ePl es k).1]? = none) : (ePl es k).2 = false :=
  (ePlN_first k es 0).2.2 (by simpa [ePl] using hx)
theorem sl_inj' {s t : ByteArray} (h : sl s = sl t) : s = t := by rw [← strB_sl s, ← strB_sl t, h]

set_option maxHeartbeats 4000000 in
set_option maxRecDepth 100000 in
theorem tget0_any (B : Nat) (w : World) (F : Bl) (t : Nat) (es : List Ent) (h : TrX B w F t es) (s : ByteArray) :
    Calls Try.prog 40 #[.pointer (some ⟨t, 0, none⟩), .string s] w (GetPost w es (sl s)) := by
  generalize hP : GetPost w es (sl s) = P
  have HP := Lib.hid hP
  obtain ⟨W1, hW1, hb, hz1, hzc⟩ := zbox w
  obtain ⟨d, Fr, g, ps, h1, h2, h3, h4, h5, h6, rfl⟩ := h.below hb
  have HFR := Lib.hid (from_d B s d W1 Fr g [] ps es h2 h3 (nklt_nil _))
  have x0 : W1.cell? ⟨t, 0, none⟩ = some (.pointer (some ⟨g, 0, none⟩)) := by rw [cell_of_block h1]; rfl
  obtain ⟨z, hz⟩ : ∃ z, w.heap.size = z := ⟨_, rfl⟩
  rw [hz] at hzc hz1
  have HZ := Lib.hid hz
  have HZC := Lib.hid hzc
  have HB := Lib.hid hb
  have HW := Lib.hid hW1
  have FIN := Lib.hid (show ∀ wx, Below W1.heap.size W1 wx → Below z w wx by
    intro wx hbx
    have hq := HZ.out
    subst hq
    exact HB.out.trans (hbx.mono (by omega)))
  have HF2 := Lib.hid (show Calls Try.prog 36 #[.pointer (some ⟨g, 0, none⟩), .string s] W1 fun e w3 => Below W1.heap.size W1 w3 ∧ ∃ (u : ByteArray) (n : Int) (b : Bool), e = .returned (.tuple #[.agg #[.string u, .int .i64 n, .pointer none], .bool b]) ∧ ((b = true ∧ es[(ePl es (sl s)).1]? = some (sl u, n)) ∨ (b = false ∧ es[(ePl es (sl s)).1]? = none)) by
    refine HFR.out.mono ?_
    rintro e w3 ⟨b3, hx⟩
    refine ⟨b3, ?_⟩
    rcases hx with ⟨x, u, q1, q2, rfl⟩ | ⟨q1, rfl⟩
    · exact ⟨u, x.2, true, rfl, .inl ⟨rfl, by rw [q1, q2]⟩⟩
    · exact ⟨_, _, false, rfl, .inr ⟨rfl, q1⟩⟩)
  have HOK := Lib.hid (show ∀ wx u n, es[(ePl es (sl s)).1]? = some (sl u, n) → u = s → Below z w wx → P (.returned (.tuple #[PtV u n, .bool true])) wx by
    intro wx u n hx hu hbx
    subst hu
    rw [← HP.out]
    exact ⟨by rw [HZ.out]; exact hbx, .inl ⟨by rw [ePl_hit hx]; simp, n, u, hx, rfl, rfl⟩⟩)
  have HNO := Lib.hid (show ∀ wx, (ePl es (sl s)).2 = false → Below z w wx → P (.returned (.tuple #[PtV ⟨#[]⟩ 0, .bool false])) wx by
    intro wx hx hbx
    rw [← HP.out]
    exact ⟨by rw [HZ.out]; exact hbx, .inr ⟨hx, rfl⟩⟩)
  clear hP h h1 h2 h4 h5 hb hzc hW1 hz
  go_enter Try.func40, Try.ntmps40
  go_upto_region 1 with fail
  rw [HW.out, HZ.out]
  go_upto_region 2 with (go_at_call 36; refine HF2.out.mono ?_; rintro e w3 ⟨b3, u, n, b, rfl, hx⟩; have HX := Lib.hid hx; obtain ⟨c0, c1, c2, f0, f1, f2⟩ := HZC.out _ b3; have HB3 := Lib.hid b3; have hs3 := b3.size; clear hx b3)
  have lz3 : z < w3.heap.size := by omega
  rcases HX.out with ⟨rfl, q1⟩ | ⟨rfl, q1⟩
  · have HQ := Lib.hid q1
    clear q1 HX
    by_cases hus : u = s
    · subst hus
      go_wp2_with fail
      refine bodyPost_ret (v := .tuple #[PtV u n, .bool true]) (by simp [results, Try.results40, go_sem, PtV, c0, c1, c2, f0, f1, f2, lz3]) rfl (HOK.out _ u n HQ.out rfl ?_)
      refine (((Below.setCell ?_ (Nat.le_refl z) _).setCell (Nat.le_refl z) _).setCell (Nat.le_refl z) _).alloc (by simp [World.setCell]; omega) _
      exact FIN.out _ HB3.out
    · have hl := bytes_ne hus
      have HNE := Lib.hid (show (ePl es (sl s)).2 = false by
        rw [ePl_hit HQ.out, decide_eq_false_iff_not]
        exact fun e => hus (sl_inj' e))
      go_wp2_with fail
      refine bodyPost_ret (v := .tuple #[PtV ⟨#[]⟩ 0, .bool false]) (by simp [results, Try.results40, go_sem, PtV, c0, c1, c2, f0, f1, f2, lz3]) rfl (HNO.out _ HNE.out ?_)
      refine (((Below.setCell ?_ (Nat.le_refl z) _).setCell (Nat.le_refl z) _).setCell (Nat.le_refl z) _).alloc (by simp [World.setCell]; omega) _
      exact FIN.out _ HB3.out
  · have HQ := Lib.hid (ePl_miss q1)
    clear q1 HX
    go_wp2_with fail
    refine bodyPost_ret (v := .tuple #[PtV ⟨#[]⟩ 0, .bool false]) (by simp [results, Try.results40, go_sem, PtV, c0, c1, c2, f0, f1, f2, lz3]) rfl (HNO.out _ HQ.out ?_)
    refine (((Below.setCell ?_ (Nat.le_refl z) _).setCell (Nat.le_refl z) _).setCell (Nat.le_refl z) _).alloc (by simp [World.setCell]; omega) _
    exact FIN.out _ HB3.out

set_option maxHeartbeats 4000000 in
set_option maxRecDepth 100000 in
theorem tget_any (B : Nat) (w : World) (F : Bl) (t : Nat) (es : List Ent) (h : TrX B w F t es) (R : Bl) (u : Value) (k : List Nat) (hu : KeyAt w R u k) :
    Calls Try.prog 30 #[.pointer (some ⟨t, 0, none⟩), u] w fun e w' => Below w.heap.size w w' ∧ (((ePl es k).2 = true ∧ ∃ n, es[(ePl es k).1]? = some (k, n) ∧ e = .returned (.tuple #[.int .i64 n, .bool true])) ∨ ((ePl es k).2 = false ∧ e = .returned (.tuple #[.int .i64 0, .bool false]))) := by
  generalize hP : (fun (e : Ending) (w' : World) => Below w.heap.size w w' ∧ (((ePl es k).2 = true ∧ ∃ n, es[(ePl es k).1]? = some (k, n) ∧ e = .returned (.tuple #[.int .i64 n, .bool true])) ∨ ((ePl es k).2 = false ∧ e = .returned (.tuple #[.int .i64 0, .bool false])))) = P
  have HP := Lib.hid hP
  have hks : sl (strB k) = k := sl_strB hu.choose_spec.choose_spec.choose_spec.choose_spec.2.2.lt
  have hst : (convert 29 9 u).run Try.prog w = .ok (.string (strB k)) w := hu.str
  have HG := Lib.hid (tget0_any B w F t es h (strB k))
  rw [hks] at HG
  have HG2 := Lib.hid (show Calls Try.prog 40 #[.pointer (some ⟨t, 0, none⟩), .string (strB k)] w fun e w' => Below w.heap.size w w' ∧ ∃ (s : ByteArray) (n : Int) (b : Bool), e = .returned (.tuple #[.agg #[.string s, .int .i64 n, .pointer none], .bool b]) ∧ (∀ w2, Below w.heap.size w w2 → P (.returned (.tuple #[.int .i64 n, .bool b])) w2) by
    refine HG.out.mono ?_
    rintro e w' ⟨hb, hx⟩
    refine ⟨hb, ?_⟩
    rcases hx with ⟨q1, n, s, q2, q3, rfl⟩ | ⟨q1, rfl⟩
    · exact ⟨s, n, true, rfl, fun w2 hb2 => by rw [← HP.out]; exact ⟨hb2, .inl ⟨q1, n, q2, rfl⟩⟩⟩
    · exact ⟨_, _, false, rfl, fun w2 hb2 => by rw [← HP.out]; exact ⟨hb2, .inr ⟨q1, rfl⟩⟩⟩)
  obtain ⟨a, m, cap, eu⟩ : ∃ a m cap, u = .slice a m cap := by obtain ⟨a, b, off, cap, e, -⟩ := hu; exact ⟨a, _, cap, e⟩
  subst eu
  clear hP h hu hks
  go_enter Try.func30, Try.ntmps30
  go_wp2_with (go_at_call 40; refine HG2.out.mono ?_; rintro e w3 ⟨b3, s, n, b, rfl, hx⟩; have HX := Lib.hid hx; have HB3 := Lib.hid b3; clear hx b3)
  exact HX.out _ (HB3.out.alloc HB3.out.size _)

/-- a row of bytes in a block of its own (its mark whatever) -/
def OwK (w : World) (base : Nat) (v : Value) (l : List Nat) : Prop :=
  ∃ g cap, v = .slice (some ⟨g, 0, none⟩) l.length cap ∧ base ≤ g ∧ g < w.heap.size ∧ (∀ (i x : Nat), l[i]? = some x → w.cell? ⟨g, i, none⟩ = some (.int .u8 (x : Int))) ∧ (∀ i, i < l.length → w.frozen? ⟨g, i, none⟩ = false) ∧ ∀ x ∈ l, x < 256
theorem OwK.below {w w1 : World} {base : Nat} {v : Value} {l : List Nat} (h : OwK w base v l) (hb : Below w.heap.size w w1) : OwK w1 base v l := by
  obtain ⟨g, cap, e, h1, h2, h3, h4, h5⟩ := h
  obtain ⟨hc, hf⟩ := bcell hb
  exact ⟨g, cap, e, h1, Nat.lt_of_lt_of_le h2 hb.size, fun i x hx => (hc _ _ h2).trans (h3 i x hx), fun i hi => (hf _ _ h2).trans (h4 i hi), h5⟩
theorem OwK.keyAt {w : World} {base : Nat} {v : Value} {l : List Nat} (h : OwK w base v l) {R : Bl} (hR : ∀ g, v.ownBlock = some g → R g) : KeyAt w R v l := by
  obtain ⟨g, cap, rfl, h1, h2, h3, h4, h5⟩ := h
  exact ⟨_, g, 0, cap, rfl, .inr ⟨rfl, hR g rfl⟩, ⟨fun _ => h2, fun i x hx => by rw [Nat.zero_add]; exact h3 i x hx, h5⟩⟩
theorem OwK.lt {w : World} {base : Nat} {v : Value} {l : List Nat} (h : OwK w base v l) : ∀ k, v.ownBlock = some k → base ≤ k ∧ k < w.heap.size := by
  obtain ⟨g, cap, rfl, h1, h2, -⟩ := h
  intro k hk
  simp only [Value.ownBlock, Option.some.injEq] at hk
  subst hk
  exact ⟨h1, h2⟩
/-- its block is one of bytes -/
def TyK (w : World) (v : Value) : Prop := ∀ g, v.ownBlock = some g → ∃ cs fr, w.heap[g]? = some (.cells cs 5 fr)
/-- a text as bytes in new memory -/
theorem conv_bytes (w : World) (s : ByteArray) : ∃ c w', (convert 9 29 (.string s)).run Try.prog w = .ok (.slice (some ⟨w.heap.size, 0, none⟩) s.size c) w' ∧ Below w.heap.size w w' ∧ OwK w' w.heap.size (.slice (some ⟨w.heap.size, 0, none⟩) s.size c) (sl s) ∧ w'.heap.size = w.heap.size + 1 ∧ ∃ cs fr, w'.heap[w.heap.size]? = some (.cells cs 5 fr) := by
  refine ⟨_, _, Lib.run_convert_string_bytes w 9 29 5 s Try.underlying9 Try.underlying29 Try.underlying5, ⟨rfl, rfl, rfl, by rw [Lib.bytesWorld_size]; omega, fun k hk => Lib.bytesWorld_at_old w _ s k hk⟩, ?_, Lib.bytesWorld_size w _ s, _, _, Lib.bytesWorld_at_new w _ s⟩
  refine ⟨w.heap.size, _, by rw [sl_length], Nat.le_refl _, by rw [Lib.bytesWorld_size]; omega, fun i x hx => ?_, fun i hi => ?_, sl_lt s⟩
  · have hi : i < s.size := by rw [← sl_length]; exact (List.getElem?_eq_some_iff.1 hx).1
    rw [Lib.bytesWorld_cell w _ s i hi]
    unfold sl at hx
    rw [List.getElem?_map] at hx
    obtain ⟨b, hb, rfl⟩ := Option.map_eq_some_iff.1 hx
    rw [List.getD_eq_getElem?_getD, hb]
    rfl
  · rw [sl_length] at hi
    unfold World.frozen?
    rw [Lib.bytesWorld_at_new]
    simp [Lib.bytesCells]
    omega

set_option maxHeartbeats 4000000 in
set_option maxRecDepth 100000 in
theorem pentry_ty (w : World) (s : ByteArray) (n : Int) :
    Calls Try.prog 37 #[PtV s n] w fun e w' => ∃ v, e = .returned (.agg #[v, .int .i64 n]) ∧ OwK w' w.heap.size v (sl s) ∧ Below w.heap.size w w' ∧ TyK w' v := by
  generalize hP : (fun (e : Ending) (w' : World) => ∃ v, e = .returned (.agg #[v, .int .i64 n]) ∧ OwK w' w.heap.size v (sl s) ∧ Below w.heap.size w w' ∧ TyK w' v) = P
  have HP := Lib.hid hP
  obtain ⟨W2, hW2⟩ : ∃ W2, (w.alloc (.cells #[.string s, .int .i64 n, .pointer none] 77)).alloc (.cells #[.slice none 0 0, .int .i64 0] 42) = W2 := ⟨_, rfl⟩
  have b2 : Below w.heap.size w W2 := by rw [← hW2]; exact ((Below.refl _ _).alloc (Nat.le_refl _) _).alloc (by simp) _
  have s2 : W2.heap.size = w.heap.size + 2 := by rw [← hW2]; simp
  have p2 : W2.heap[w.heap.size]? = some (.cells #[.string s, .int .i64 n, .pointer none] 77 (0, 0)) := by
    rw [← hW2, heap_alloc_old _ _ (by simp)]; exact heap_alloc_new w _
  have q2 : W2.heap[w.heap.size + 1]? = some (.cells #[.slice none 0 0, .int .i64 0] 42 (0, 0)) := by
    have e : (w.alloc (.cells #[.string s, .int .i64 n, .pointer none] 77)).heap.size = w.heap.size + 1 := by simp
    rw [← hW2, ← e]; exact heap_alloc_new _ _
  obtain ⟨c, W3, hcv, b3, o3, s3, cs3, fr3, t3⟩ := conv_bytes W2 s
  have p3 : W3.heap[w.heap.size]? = some (.cells #[.string s, .int .i64 n, .pointer none] 77 (0, 0)) := by rw [b3.block _ (by omega)]; exact p2
  have q3 : W3.heap[w.heap.size + 1]? = some (.cells #[.slice none 0 0, .int .i64 0] 42 (0, 0)) := by rw [b3.block _ (by omega)]; exact q2
  obtain ⟨z, hz⟩ : ∃ z, w.heap.size = z := ⟨_, rfl⟩
  have HZ := Lib.hid hz
  rw [hz] at p2 q2 p3 q3 s2
  have d0 : W2.cell? ⟨z, 0, none⟩ = some (.string s) := by rw [cell_of_block p2]; rfl
  have d1 : W2.cell? ⟨z, 1, none⟩ = some (.int .i64 n) := by rw [cell_of_block p2]; rfl
  have d3 : W3.cell? ⟨z, 1, none⟩ = some (.int .i64 n) := by rw [cell_of_block p3]; rfl
  have e0 : W3.cell? ⟨z + 1, 0, none⟩ = some (.slice none 0 0) := by rw [cell_of_block q3]; rfl
  have e1 : W3.cell? ⟨z + 1, 1, none⟩ = some (.int .i64 0) := by rw [cell_of_block q3]; rfl
  have f0 := unfrozen_of_block q3 0
  have f1 := unfrozen_of_block q3 1
  have HFIN := Lib.hid (show ∀ wx, Frm (fun k => k = z + 1) W3 wx → P (.returned (.agg #[.slice (some ⟨W2.heap.size, 0, none⟩) s.size c, .int .i64 n])) wx by
    intro wx hf
    rw [← HP.out]
    refine ⟨_, rfl, ?_, ?_, ?_⟩
    · obtain ⟨g, cap, e, h1, h2, h3, h4, h5⟩ := o3
      injection e with e e6 e7
      injection e with e
      injection e with e
      refine ⟨g, cap, by rw [← e, ← e6, ← e7], by omega, Nat.lt_of_lt_of_le h2 hf.size, fun i x hx => ?_, fun i hi => ?_, h5⟩
      · rw [hf.cell h2 (by omega)]; exact h3 i x hx
      · rw [hf.frozen h2 (by omega)]; exact h4 i hi
    · have := HZ.out
      exact ((Frm.of_below (F := fun k => w.heap.size ≤ k) b2).trans (F1 := fun k => w.heap.size ≤ k) ((Frm.of_below (F := fun k => w.heap.size ≤ k) b3).trans (F1 := fun k => k = z + 1) hf (fun k hk => .inl (by omega))) (fun k hk => .inl hk)).below (fun k hk => hk) (Nat.le_refl _)
    · intro g hg
      simp only [Value.ownBlock, Option.some.injEq] at hg
      subst hg
      exact ⟨cs3, fr3, (hf.heap (by omega) (by omega)).trans t3⟩)
  have HW := Lib.hid hW2
  obtain ⟨y, hy⟩ : ∃ y, W2.heap.size = y := ⟨_, rfl⟩
  rw [hy] at hcv HFIN
  unfold PtV
  clear hP b2 p2 q2 b3 o3 s3 t3 p3 q3 hz hW2 s2 hy
  go_enter Try.func37, Try.ntmps37
  go_upto_region 1 with fail
  rw [HW.out, HZ.out]
  go_wp2
  refine bodyPost_ret (v := .agg #[.slice (some ⟨y, 0, none⟩) s.size c, .int .i64 n]) (by simp [results, Try.results37, go_sem, e0, e1, f0, f1]) rfl (HFIN.out _ ?_)
  exact (Frm.set1 (F := fun k => k = z + 1) W3 rfl 0 _).setCell (.inl rfl) 1 _

theorem pentry_any (w : World) (s : ByteArray) (n : Int) :
    Calls Try.prog 37 #[PtV s n] w fun e w' => ∃ v, e = .returned (.agg #[v, .int .i64 n]) ∧ OwK w' w.heap.size v (sl s) ∧ Below w.heap.size w w' :=
  (pentry_ty w s n).mono fun _ _ ⟨v, a, b, c, _⟩ => ⟨v, a, b, c⟩

end Go.Proofs.Ytncganfjbalkgaa
