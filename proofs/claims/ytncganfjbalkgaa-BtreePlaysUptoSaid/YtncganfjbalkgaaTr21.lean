/-
  All entries of a tree: appendEntries, Entries: contracts over the translation.
  Conditions: the tree lies in memory.
-/
import Derived.Test.YtncganfjbalkgaaTr20
import Derived.Laws.MakeOwn
namespace Go.Proofs.Ytncganfjbalkgaa
open Go.RowKit Go.Joins Go.ChangeShapes Go.WideShapes
set_option linter.unusedVariables false

theorem flat_take {ks : List Kd} {j : Nat} {c : Kd} (h : ks[j]? = some c) : (ks.take (j + 1)).flatMap Kd.es = (ks.take j).flatMap Kd.es ++ c.es := by
  rw [List.take_add_one, h]; simp
theorem flat_take_le (ks : List Kd) (j : Nat) : ((ks.take j).flatMap Kd.es).length ≤ (ks.flatMap Kd.es).length := by
  conv => rhs; rw [← List.take_append_drop j ks, List.flatMap_append, List.length_append]
  omega

set_option maxHeartbeats 4000000 in
set_option maxRecDepth 100000 in
theorem app_node (B d : Nat) (W : World) (base : Nat) (IH : ∀ (F : Bl) (g : Nat) (lo : List Nat) (ps : List Pv) (es : List Ent), Sub B d W F g lo ps es → (∀ k, F k → k < base) → ∀ (w : World) (lv : Value) (L : List Ev) (l : List Ent), EnS W w base lv L l → l.length + es.length ≤ 4294967296 →
      Calls Try.prog 39 #[.pointer (some ⟨g, 0, none⟩), lv] w fun e w' => ∃ v' L', e = .returned v' ∧ EnS W w' base v' L' (l ++ es))
    (F : Bl) (g : Nat) (lo : List Nat) (ps : List Pv) (es : List Ent) (h : Sub B (d + 1) W F g lo ps es) (hF : ∀ k, F k → k < base) (w : World) (lv : Value) (L : List Ev) (l : List Ent) (hl : EnS W w base lv L l) (hsz : l.length + es.length ≤ 4294967296) (hps : ps.length ≤ 4294967296) :
    Calls Try.prog 39 #[.pointer (some ⟨g, 0, none⟩), lv] w fun e w' => ∃ v' L', e = .returned v' ∧ EnS W w' base v' L' (l ++ es) := by
  generalize hP : (fun (e : Ending) (w' : World) => ∃ v' L', e = .returned v' ∧ EnS W w' base v' L' (l ++ es)) = P
  have HP := Lib.hid hP
  obtain ⟨v, G, ks, nod, hkz, rfl, rfl, hhd, rfl⟩ := h.nod
  obtain ⟨a, cap, rfl, -⟩ := nod.nd.form
  obtain ⟨n, en⟩ : ∃ n, (ks.map Kd.pv).length = n := ⟨_, rfl⟩
  have hkl : ks.length = n := by rw [← en, List.length_map]
  have hnd : ∀ wx, Below base W wx → NdAt B wx g (.slice a (ks.map Kd.pv).length cap) (ks.map Kd.pv) := fun wx hb => nod.nd.step (Frm.of_below' hb) (by have := hF g (.inl rfl); omega) (fun k hk hb => by have := hF k (.inr (.inl hk)); omega)
  have c0 : w.cell? ⟨g, 0, none⟩ = some (.slice a n cap) := by
    have := (hnd w hl.bel).cell.1
    rw [en] at this
    exact this
  have HAT := Lib.hid (show ∀ wx, Below base W wx → ∀ (j : Nat) (c : Kd), ks[j]? = some c → ∃ gb, a = some ⟨gb, 0, none⟩ ∧ wx.cell? ⟨gb, j * 3, none⟩ = some (.string c.key) ∧ wx.cell? ⟨gb, j * 3 + 1, none⟩ = some (.int .i64 c.id) ∧ wx.cell? ⟨gb, j * 3 + 2, none⟩ = some (.pointer (some ⟨c.g, 0, none⟩)) by
    intro wx hb j c hc
    obtain ⟨gb, cap', e, -, -, d0, d1, d2, -⟩ := (hnd wx hb).own.at (i := j) (p := c.pv) (by rw [List.getElem?_map, hc]; rfl)
    injection e with e
    exact ⟨gb, e, d0, d1, d2⟩)
  have HIH := Lib.hid (show ∀ c ∈ ks, ∀ (w : World) (lv : Value) (L : List Ev) (l : List Ent), EnS W w base lv L l → l.length + c.es.length ≤ 4294967296 → Calls Try.prog 39 #[.pointer (some ⟨c.g, 0, none⟩), lv] w fun e w' => ∃ v' L', e = .returned v' ∧ EnS W w' base v' L' (l ++ c.es) from fun c hc => IH c.F c.g c.k c.ps c.es (nod.kids.sub c hc) (fun k hk => hF k (.inr (.inr (by rw [nod.kids.foot]; exact ⟨c, hc, hk⟩)))))
  have EN := Lib.hid hkl
  have HL := Lib.hid hl
  have HSZ := Lib.hid hsz
  have hlen9 : n ≤ 4294967296 := by omega
  clear hP nod hkz hhd h hl hsz hkl hnd hps en
  go_enter Try.func39, Try.ntmps39
  go_wp2
  go_loopw [1, 12] (fun v i wr => ∃ (j : Nat) (L' : List Ev), j ≤ n ∧ i = .int .i64 j ∧ Hid (EnS W wr base v L' (l ++ (ks.take j).flatMap Kd.es))) (fun _ i _ => n - (intOf i).toNat)
  case atStart => exact ⟨0, L, Nat.zero_le _, rfl, by rw [List.take_zero, List.flatMap_nil, List.append_nil]; exact HL.out⟩
  case round =>
    obtain ⟨j, L', hj, rfl, HE⟩ := hrel
    by_cases q : j < n
    · have c1 : (j : Int) < (n : Int) := by omega
      have hc : ks[j]? = some (ks[j]'(by rw [EN.out]; exact q)) := List.getElem?_eq_getElem _
      generalize ks[j]'(by rw [EN.out]; exact q) = c at *
      obtain ⟨gb, rfl, d0, d1, d2⟩ := HAT.out wr HE.out.bel j c hc
      have hgbl : gb < wr.heap.size := World.block_lt_of_cell? wr ⟨gb, j * 3, none⟩ d0
      have HTK := Lib.hid (flat_take hc)
      have HCA := Lib.hid (fun wx (hb : Below wr.heap.size wr wx) => HIH.out c (List.mem_of_getElem? hc) wx u1 L' _ (HE.out.step hb) (by
        have h1 := flat_take_le ks (j + 1)
        rw [flat_take hc, List.length_append] at h1
        have := HSZ.out
        rw [List.length_append]
        omega))
      clear hc
      go_wp2_with (go_at_call 39; refine (HCA.out _ ((Below.refl _ _).alloc (Nat.le_refl _) _)).mono ?_; rintro e w5 ⟨v5, L5, rfl, hx⟩; have HX := Lib.hid hx; clear hx)
      go_roundw
      case rel => exact ⟨j + 1, _, by omega, by go_num, by rw [HTK.out, ← List.append_assoc]; exact HX.out⟩
      case measure => simp [intOf]; omega
    · obtain rfl : j = n := by omega
      have hfin : P (.returned u1) wr := by
        rw [← HP.out]
        refine ⟨u1, L', rfl, ?_⟩
        have := HE.out
        rw [List.take_of_length_le (by rw [EN.out]; exact Nat.le_refl _)] at this
        exact this
      have HF := Lib.hid hfin
      clear hfin
      go_wp2
      exact HF.out

theorem app_d (B : Nat) (W : World) (base : Nat) : ∀ (d : Nat) (F : Bl) (g : Nat) (lo : List Nat) (ps : List Pv) (es : List Ent), Sub B d W F g lo ps es → (∀ k, F k → k < base) → ∀ (w : World) (lv : Value) (L : List Ev) (l : List Ent), EnS W w base lv L l → l.length + es.length ≤ 4294967296 →
      Calls Try.prog 39 #[.pointer (some ⟨g, 0, none⟩), lv] w fun e w' => ∃ v' L', e = .returned v' ∧ EnS W w' base v' L' (l ++ es)
  | 0, F, g, lo, ps, es, h, hF, w, lv, L, l, hl, hsz => app_leaf B W base F g lo ps es h hF w lv L l hl hsz
  | d + 1, F, g, lo, ps, es, h, hF, w, lv, L, l, hl, hsz => app_node B d W base (fun F g lo ps es h hF => app_d B W base d F g lo ps es h hF) F g lo ps es h hF w lv L l hl hsz (by
      obtain ⟨v, G, ks, nod, hkz, rfl, rfl, -, -⟩ := h.nod
      rw [List.length_map]
      have : ∀ (ks : List Kd), Sz ks → (∀ c ∈ ks, c.es ≠ []) → ks.length ≤ (ks.flatMap Kd.es).length := by
        intro ks
        induction ks with
        | nil => intro _ _; simp
        | cons c r ih =>
          intro h1 h2
          have := ih (fun x hx => h1 x (List.mem_cons_of_mem _ hx)) (fun x hx => h2 x (List.mem_cons_of_mem _ hx))
          have hne := h2 c (List.mem_cons_self ..)
          have : 0 < c.es.length := by cases hq : c.es with | nil => exact absurd hq hne | cons => simp
          simp only [List.flatMap_cons, List.length_append, List.length_cons]
          omega
      have := this ks hkz (fun c hc => by
        obtain ⟨v', G', ss⟩ := nod.kids.sub c hc
        exact ss.con.ne (by intro e; have := (hkz c hc).1; rw [e] at this; simp at this))
      omega)

set_option maxHeartbeats 4000000 in
set_option maxRecDepth 100000 in
theorem tents_any (B : Nat) (w : World) (F : Bl) (t : Nat) (es : List Ent) (h : TrX B w F t es) (hsz : es.length ≤ 4294967296) :
    Calls Try.prog 26 #[.pointer (some ⟨t, 0, none⟩)] w fun e w' => ∃ v L, e = .returned v ∧ EnS w w' w.heap.size v L es := by
  generalize hP : (fun (e : Ending) (w' : World) => ∃ v L, e = .returned v ∧ EnS w w' w.heap.size v L es) = P
  have HP := Lib.hid hP
  obtain ⟨d, Fr, g, ps, h1, h2, h3, h4, h5, h6, rfl⟩ := h
  have lt : t < w.heap.size := (Array.getElem?_eq_some_iff.1 h1).1
  obtain ⟨i0, hi, hz0, hz1, hz2⟩ := info_parts infoE
  obtain ⟨W2, hmk, ho2, hg2⟩ := run_make_own (P := Try.prog) (w := w.drew) w.heap.size 26 42 i0 _ 2 Try.underlying26 hi hz0 hz1 .i64 .i64 es.length (by rw [hz2]; omega) (by unfold maxLen; omega) (Nat.le_refl _)
  have b2 : Below w.heap.size w W2 := ⟨hg2.os, hg2.tape, hg2.output, hg2.size, fun k hk => hg2.block k hk (by simp)⟩
  have hE : EnS w W2 w.heap.size (.slice (some ⟨w.heap.size, 0, none⟩) 0 es.length) [] [] := ⟨⟨ho2, by simp⟩, rfl, fun i p e hp => by simp at hp, b2, b2.size⟩
  have HA := Lib.hid (app_d B w w.heap.size d Fr g [] ps es h2 (fun k hk => (h2.low k hk).2) W2 _ [] [] hE (by simp; omega))
  rw [List.nil_append] at HA
  have x0 : w.cell? ⟨t, 0, none⟩ = some (.pointer (some ⟨g, 0, none⟩)) := by rw [cell_of_block h1]; rfl
  have x1 : w.cell? ⟨t, 1, none⟩ = some (.int .i64 (es.length : Nat)) := by rw [cell_of_block h1]; rfl
  have h12 : W2.heap[t]? = some (.cells #[.pointer (some ⟨g, 0, none⟩), .int .i64 (es.length : Nat)] 71 (0, 0)) := (b2.block t lt).trans h1
  have y0 : W2.cell? ⟨t, 0, none⟩ = some (.pointer (some ⟨g, 0, none⟩)) := by rw [cell_of_block h12]; rfl
  obtain ⟨z, hz⟩ : ∃ z, w.drew.heap.size = z := ⟨_, rfl⟩
  have hz' : w.heap.size = z := hz
  rw [hz] at hmk
  rw [hz'] at HA
  obtain ⟨n, en⟩ : ∃ n, es.length = n := ⟨_, rfl⟩
  rw [en] at x1 hmk HA
  have HOUT := Lib.hid (show ∀ e wx, (∃ v' L', e = .returned v' ∧ EnS w wx z v' L' es) → P e wx by
    intro e wx hx
    rw [← HP.out, hz']
    exact hx)
  clear hP h1 h2 h4 h5 h12 ho2 hg2 b2 hE hz hz' en hsz hi hz0 hz1 hz2
  go_enter Try.func26, Try.ntmps26
  go_wp2_with fail
  go_region_with (go_at_call 39; refine HA.out.mono ?_; rintro e w5 ⟨v5, L5, rfl, hx⟩; have HX := Lib.hid (HOUT.out _ _ ⟨v5, L5, rfl, hx⟩); clear hx)
  all_goals
    go_wp2_with fail
    refine bodyPost_ret (v := v5) (by simp [results, Try.results26, go_sem, Act.put]) (by first | rfl | simp [Act.put]) HX.out

end Go.Proofs.Ytncganfjbalkgaa
