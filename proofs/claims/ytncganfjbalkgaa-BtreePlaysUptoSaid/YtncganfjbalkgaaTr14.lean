/-
  The tree as the program hands it out: New, Put, Len: contracts over the translation.
  Conditions: the tree lies in memory.
-/
import Derived.Test.YtncganfjbalkgaaTr13
import Derived.Test.YtncganfjbalkgaaEn4
namespace Go.Proofs.Ytncganfjbalkgaa
open Go.RowKit Go.Joins Go.ChangeShapes Go.WideShapes
set_option linter.unusedVariables false

theorem nklt_nil (k : List Nat) : ¬ klt k [] := by cases k <;> simp [klt, ordB]
/-- a tree: its root, how many entries it has -/
def TrX (B : Nat) (w : World) (F : Bl) (t : Nat) (es : List Ent) : Prop :=
  ∃ d Fr g ps, w.heap[t]? = some (.cells #[.pointer (some ⟨g, 0, none⟩), .int .i64 (es.length : Nat)] 71 (0, 0)) ∧ Sub B d w Fr g [] ps es ∧ ps.length ≤ 8 ∧ (d = 0 ∨ 2 ≤ ps.length) ∧ ¬ Fr t ∧ B ≤ t ∧ F = fun k => k = t ∨ Fr k
theorem TrX.step {B : Nat} {w w1 : World} {F F1 : Bl} {t : Nat} {es : List Ent} (h : TrX B w F t es) (hf : Frm F1 w w1) (hd : ∀ k, F k → ¬ F1 k) : TrX B w1 F t es := by
  obtain ⟨d, Fr, g, ps, h1, h2, h3, h4, h5, h6, rfl⟩ := h
  exact ⟨d, Fr, g, ps, (hf.heap (Array.getElem?_eq_some_iff.1 h1).1 (hd t (.inl rfl))).trans h1, h2.step hf (fun k hk => hd k (.inr hk)), h3, h4, h5, h6, rfl⟩
theorem TrX.below {B : Nat} {w w1 : World} {F : Bl} {t : Nat} {es : List Ent} (h : TrX B w F t es) (hb : Below w.heap.size w w1) : TrX B w1 F t es := h.step (Frm.of_below (F := fun _ => False) hb) (fun _ _ h => h)
theorem TrX.low {B : Nat} {w : World} {F : Bl} {t : Nat} {es : List Ent} (h : TrX B w F t es) : ∀ k, F k → B ≤ k ∧ k < w.heap.size := by
  obtain ⟨d, Fr, g, ps, h1, h2, h3, h4, h5, h6, rfl⟩ := h
  rintro k (rfl | hk)
  · exact ⟨h6, (Array.getElem?_eq_some_iff.1 h1).1⟩
  · exact h2.low k hk
theorem TrX.srt {B : Nat} {w : World} {F : Bl} {t : Nat} {es : List Ent} (h : TrX B w F t es) : Srt es := by
  obtain ⟨d, Fr, g, ps, h1, ⟨v, G, h2⟩, -⟩ := h
  exact h2.con.srt
theorem TrX.ft {B : Nat} {w : World} {F : Bl} {t : Nat} {es : List Ent} (h : TrX B w F t es) : F t := by
  obtain ⟨d, Fr, g, ps, h1, h2, h3, h4, h5, h6, rfl⟩ := h
  exact .inl rfl

set_option maxHeartbeats 1000000 in
theorem tnew_any (w : World) : Calls Try.prog 8 #[] w fun e w' => ∃ t F, e = .returned (.pointer (some ⟨t, 0, none⟩)) ∧ TrX w.heap.size w' F t [] ∧ Below w.heap.size w w' := by
  generalize hP : (fun (e : Ending) (w' : World) => ∃ t F, e = .returned (.pointer (some ⟨t, 0, none⟩)) ∧ TrX w.heap.size w' F t [] ∧ Below w.heap.size w w') = P
  have HP := Lib.hid hP
  clear hP
  go_enter Try.func8, Try.ntmps8
  go_wp2
  rw [← HP.out]
  have e1 : (w.alloc (.cells #[.slice none 0 0] 69)).heap.size = w.heap.size + 1 := by simp
  refine ⟨w.heap.size + 1, _, by first | rfl | simp, ⟨0, Fo w.heap.size (.slice none 0 0) (fun _ => False), w.heap.size, [], ?_, ⟨.slice none 0 0, fun _ => False, ⟨?_, OwP.nil _ _, Nat.le_refl _⟩, ⟨rfl, by simp, rfl, List.Pairwise.nil, by simp⟩, fun k h => h.elim, rfl⟩, by simp, .inl rfl, ?_, by omega, rfl⟩, ?_⟩
  · rw [← e1]; exact heap_alloc_new _ _
  · rw [heap_alloc_old _ _ (by simp)]; exact heap_alloc_new w _
  · rintro (h | h | h)
    · omega
    · simp [Value.ownBlock] at h
    · exact h
  · exact ((Below.refl _ _).alloc (Nat.le_refl _) _).alloc (by simp) _

set_option maxHeartbeats 1000000 in
theorem tlen_any (B : Nat) (w : World) (F : Bl) (t : Nat) (es : List Ent) (h : TrX B w F t es) : Calls Try.prog 25 #[.pointer (some ⟨t, 0, none⟩)] w fun e w' => e = .returned (.int .i64 (es.length : Nat)) ∧ w = w' := by
  obtain ⟨d, Fr, g, ps, h1, -⟩ := h
  have c1 : w.cell? ⟨t, 1, none⟩ = some (.int .i64 (es.length : Nat)) := by rw [cell_of_block h1]; rfl
  clear h1
  go_enter Try.func25, Try.ntmps25
  go_wp2
  go_ret
  exact ⟨rfl, rfl⟩

theorem tree_put {w : World} {t : Nat} {a b x : Value} (h : w.heap[t]? = some (.cells #[a, b] 71 (0, 0))) : (w.setCell ⟨t, 0, none⟩ x).heap[t]? = some (.cells #[x, b] 71 (0, 0)) ∧ (w.setCell ⟨t, 1, none⟩ x).heap[t]? = some (.cells #[a, x] 71 (0, 0)) := by
  constructor
  · rw [setCell_eq_setRow w t 0 #[a, b] _ _ x h, setRow_heap w t _ _ _ _ h]; rfl
  · rw [setCell_eq_setRow w t 1 #[a, b] _ _ x h, setRow_heap w t _ _ _ _ h]; rfl

theorem sl_empty : sl ⟨#[]⟩ = [] := rfl
/-- the root was too great: a new one above it -/
theorem grown_root {B d : Nat} {w wc : World} {t g n m' : Nat} {Fr F' : Bl} {ps' : List Pv} {es : List Ent} {k : List Nat} {id : Int} {P : Ending → World → Prop}
    (hP : (fun (e : Ending) (w' : World) => e = .returned (.bool (!(ePl es k).2)) ∧ ∃ F', Frm (fun k => k = t ∨ Fr k) w w' ∧ New w (fun k => k = t ∨ Fr k) F' ∧ TrX B w' F' t (ePut es k id)) = P)
    (f1 : Frm Fr w wc) (n1 : New w Fr F') (s1 : Sub B d wc F' g [] ps' (ePut es k id)) (em : ps'.length = m') (hft : ¬ F' t) (h1c : wc.heap[t]? = some (.cells #[.pointer (some ⟨g, 0, none⟩), .int .i64 (n : Nat)] 71 (0, 0)))
    (hln : (ePut es k id).length = n + 1) (ht : (ePl es k).2 = false) (h6 : B ≤ t) (h5 : ¬ Fr t) (h9 : 9 ≤ m') (h9b : m' ≤ 9) (ltc : t < wc.heap.size) :
    Calls Try.prog 33 #[.pointer (some ⟨wc.heap.size + 1, 0, none⟩), .int .i64 0] ((((wc.setCell ⟨t, 1, none⟩ (.int .i64 ((n : Int) + 1))).setCell ⟨t, 0, none⟩ (.pointer (some ⟨wc.heap.size + 1, 0, none⟩))).alloc (.cells #[.string ⟨#[]⟩, .int .i64 0, .pointer (some ⟨g, 0, none⟩)] 77)).alloc (.cells #[.slice (some ⟨wc.heap.size, 0, none⟩) 1 1] 69))
      fun e w' => e = .returned (.tuple #[]) ∧ P (.returned (.bool true)) w' := by
  obtain ⟨w4, hw4⟩ : ∃ w4, (wc.setCell ⟨t, 1, none⟩ (.int .i64 ((n : Int) + 1))).setCell ⟨t, 0, none⟩ (.pointer (some ⟨wc.heap.size + 1, 0, none⟩)) = w4 := ⟨_, rfl⟩
  rw [hw4]
  have f4 : Frm (fun k => k = t) wc w4 := by rw [← hw4]; exact (Frm.set1 (F := fun k => k = t) wc rfl 1 _).setCell (.inl rfl) 0 _
  have h4 : w4.heap.size = wc.heap.size := by rw [← hw4]; simp [World.setCell]
  have ht4 : w4.heap[t]? = some (.cells #[.pointer (some ⟨wc.heap.size + 1, 0, none⟩), .int .i64 ((n : Int) + 1)] 71 (0, 0)) := by rw [← hw4]; exact (tree_put (tree_put h1c).2).1
  obtain ⟨gs, hgs⟩ : ∃ gs, wc.heap.size = gs := ⟨_, rfl⟩
  rw [hgs] at ht4 h4 ltc ⊢
  obtain ⟨w5, hw5⟩ : ∃ w5, (w4.alloc (.cells #[.string ⟨#[]⟩, .int .i64 0, .pointer (some ⟨g, 0, none⟩)] 77)).alloc (.cells #[.slice (some ⟨gs, 0, none⟩) 1 1] 69) = w5 := ⟨_, rfl⟩
  rw [hw5]
  have b5 : Below w4.heap.size w4 w5 := by rw [← hw5]; exact ((Below.refl _ _).alloc (Nat.le_refl _) _).alloc (by simp) _
  have s5 : w5.heap.size = gs + 2 := by rw [← hw5]; simp; omega
  have hn5 : w5.heap[gs + 1]? = some (.cells #[.slice (some ⟨gs, 0, none⟩) 1 1] 69 (0, 0)) := by
    have e : (w4.alloc (.cells #[.string ⟨#[]⟩, .int .i64 0, .pointer (some ⟨g, 0, none⟩)] 77)).heap.size = gs + 1 := by simp; omega
    rw [← hw5, ← e]; exact heap_alloc_new _ _
  have hp5 : w5.heap[gs]? = some (.cells #[.string ⟨#[]⟩, .int .i64 0, .pointer (some ⟨g, 0, none⟩)] 77 (0, 0)) := by
    rw [← hw5, heap_alloc_old _ _ (by simp; omega), ← h4]; exact heap_alloc_new _ _
  have hlow := s1.low
  rw [hgs] at hlow
  have f5 : Frm (fun k => k = t) wc w5 := f4.step b5
  have hB : B ≤ gs := by omega
  obtain ⟨kd, hkd⟩ : ∃ kd : Kd, kd = { key := ⟨#[]⟩, id := 0, g := g, F := F', ps := ps', es := ePut es k id } := ⟨_, rfl⟩
  have nod : Nod B d w5 (gs + 1) (.slice (some ⟨gs, 0, none⟩) 1 1) F' ([] ++ kd :: []) := by
    subst hkd
    refine ⟨⟨hn5, OwP.mk (cur := pcells [((⟨#[]⟩ : ByteArray), (0 : Int), some g)]) hB hp5 (by simp) (by unfold maxLen; omega) rfl rfl, by omega⟩, ⟨?_, by simp, ?_⟩, ?_⟩
    · intro c hc
      simp only [List.nil_append, List.mem_singleton] at hc
      subst hc
      exact s1.step f5 (fun k hk e => hft (by rw [← e]; exact hk))
    · funext k
      simp
    · intro k hk
      have := hlow k hk
      refine ⟨by omega, fun e => ?_, this.1, by omega⟩
      simp only [Value.ownBlock, Option.some.injEq] at e
      omega
  have hh := halve_any B d w5 (gs + 1) _ F' [] [] kd nod (by rw [hkd]; simp only; omega) (by rw [hkd]; simp only; omega) (by simp)
  refine hh.mono ?_
  rintro e w' ⟨v', G', c1, c2, rfl, nod', k1, k2, k3, k4, f6, new6⟩
  refine ⟨rfl, ?_⟩
  have hkl : kd.ps.length = m' := by rw [hkd]; exact em
  rw [hkl] at k2 k3
  rw [← hP]
  have notin : ∀ k, k = t → ¬ Fo (gs + 1) (.slice (some ⟨gs, 0, none⟩) 1 1) F' k := by
    rintro k rfl (e | e | e)
    · omega
    · simp only [Value.ownBlock, Option.some.injEq] at e; omega
    · exact hft e
  have sub := nod'.sub (lo := []) (by
    intro x hx
    simp only [List.nil_append, List.mem_cons, List.not_mem_nil, or_false] at hx
    rcases hx with rfl | rfl <;> omega) (by show some (sl c1.key) = some []; rw [k1, hkd]; rfl)
  have hes : ([] ++ c1 :: c2 :: []).flatMap Kd.es = ePut es k id := by
    have : c1.es ++ c2.es = ePut es k id := by rw [k4, hkd]
    simpa using this
  rw [hes] at sub
  have fw : Frm (fun k => k = t ∨ Fr k) w w' := by
    refine (((f1.mono (fun k hk => .inr hk)).trans (F1 := fun k => k = t) f5 (fun k hk => .inl (.inl hk))).trans f6 ?_)
    rintro k (e | e | e)
    · have := f1.size; exact .inr (by omega)
    · simp only [Value.ownBlock, Option.some.injEq] at e
      have := f1.size; exact .inr (by omega)
    · rcases n1 k e with q | q
      · exact .inl (.inr q)
      · exact .inr q
  refine ⟨by rw [ht]; rfl, _, fw, ?_, d + 1, Fo (gs + 1) v' G', gs + 1, _, ?_, sub, by simp, .inr (by simp), ?_, h6, rfl⟩
  · rintro k (rfl | hk)
    · exact .inl (.inl rfl)
    · rcases new6 k hk with (e | e | e) | q
      · have := f1.size; exact .inr (by omega)
      · simp only [Value.ownBlock, Option.some.injEq] at e
        have := f1.size; exact .inr (by omega)
      · rcases n1 k e with q | q
        · exact .inl (.inr q)
        · exact .inr q
      · have := f1.size; exact .inr (by omega)
  · rw [f6.heap (by omega) (notin t rfl), b5.block t (by omega), ht4, hln]
    simp
  · intro hk
    rcases new6 t hk with q | q
    · exact notin t rfl q
    · omega

set_option maxHeartbeats 4000000 in
set_option maxRecDepth 100000 in
theorem tput_any (B : Nat) (w : World) (F : Bl) (t : Nat) (es : List Ent) (h : TrX B w F t es) (hn : es.length ≤ 4294967296) (R : Bl) (u : Value) (k : List Nat) (hu : KeyAt w R u k) (id : Int) :
    Calls Try.prog 12 #[.pointer (some ⟨t, 0, none⟩), u, .int .i64 id] w fun e w' => e = .returned (.bool (!(ePl es k).2)) ∧ ∃ F', Frm F w w' ∧ New w F F' ∧ TrX B w' F' t (ePut es k id) := by
  generalize hP : (fun (e : Ending) (w' : World) => e = .returned (.bool (!(ePl es k).2)) ∧ ∃ F', Frm F w w' ∧ New w F F' ∧ TrX B w' F' t (ePut es k id)) = P
  have HP := Lib.hid hP
  have hks : sl (strB k) = k := sl_strB hu.choose_spec.choose_spec.choose_spec.choose_spec.2.2.lt
  have HST := Lib.hid (show ∀ n, (convert 29 9 u).run Try.prog (w.drewN n) = .ok (.string (strB k)) (w.drewN n) from hu.strN)
  have hst : (convert 29 9 u).run Try.prog w.drew = .ok (.string (strB k)) w.drew := hu.strN 1
  obtain ⟨d, Fr, g, ps, h1, h2, h3, h4, h5, h6, rfl⟩ := h
  have hnk := nklt_nil k
  have HPUT := Lib.hid (fun wx (hb : Below w.heap.size w wx) => put_d B (strB k) id d wx Fr g [] ps es (h2.below hb) h3 (by rw [hks]; exact hnk))
  rw [hks] at HPUT
  obtain ⟨n, en⟩ : ∃ n, es.length = n := ⟨_, rfl⟩
  have c0 : w.cell? ⟨t, 0, none⟩ = some (.pointer (some ⟨g, 0, none⟩)) := by rw [cell_of_block h1]; rfl
  have lt : t < w.heap.size := (Array.getElem?_eq_some_iff.1 h1).1
  rw [en] at h1 hn
  have H1 := Lib.hid h1
  have H2 := Lib.hid h2
  have H4 := Lib.hid h4
  have H5 := Lib.hid h5
  have HEN := Lib.hid en
  obtain ⟨a, m, cap, eu⟩ : ∃ a m cap, u = .slice a m cap := by obtain ⟨a, b, off, cap, e, -⟩ := hu; exact ⟨a, _, cap, e⟩
  subst eu
  cases ht : (ePl es k).2 with
  | true =>
    have HC := Lib.hid (show ∀ wx, Below w.heap.size w wx → Calls Try.prog 32 #[.pointer (some ⟨g, 0, none⟩), .string (strB k), .int .i64 id] wx fun e w2 => e = .returned (.bool false) ∧ Below wx.heap.size wx w2 by
      intro wx hb
      refine (HPUT.out wx hb).mono ?_
      rintro e w2 (⟨-, q1, q2⟩ | ⟨q1, -⟩)
      · exact ⟨q1, q2⟩
      · rw [ht] at q1; cases q1)
    have HFIN := Lib.hid (show ∀ w2, Below w.heap.size w w2 → P (.returned (.bool false)) w2 by
      intro w2 hb
      rw [← HP.out]
      refine ⟨by rw [ht]; rfl, _, Frm.of_below hb, New.refl _ _, ?_⟩
      have : ePut es k id = es := by unfold ePut; rw [ht]; rfl
      rw [this]
      exact TrX.below ⟨d, Fr, g, ps, by rw [HEN.out]; exact H1.out, H2.out, h3, H4.out, H5.out, h6, rfl⟩ hb)
    clear hP h1 h2 h4 h5 hu hks hnk en ht
    go_enter Try.func12, Try.ntmps12
    go_wp2_with fail
    go_region_with (go_at_call 32; refine (HC.out w.drew ((Below.refl _ _).drew)).mono ?_; rintro e w2 ⟨rfl, b2⟩; have HX := Lib.hid (HFIN.out _ (stepB ((Below.refl _ _).drew) b2)); clear b2)
    all_goals
      go_wp2_with fail
      exact HX.out
  | false =>
    have hlen : (ePut es k id).length = n + 1 := by
      have := (ePl_le es k).1
      unfold ePut
      rw [ht, if_neg (by simp)]
      simp; omega
    have HC := Lib.hid (show ∀ wx, Below w.heap.size w wx → Calls Try.prog 32 #[.pointer (some ⟨g, 0, none⟩), .string (strB k), .int .i64 id] wx fun e w2 => e = .returned (.bool true) ∧ ∃ F' ps', Frm Fr w w2 ∧ New w Fr F' ∧ Sub B d w2 F' g [] ps' (ePut es k id) ∧ ps.length ≤ ps'.length ∧ ps'.length ≤ ps.length + 1 by
      intro wx hb
      refine (HPUT.out wx hb).mono ?_
      rintro e w2 (⟨q1, -⟩ | ⟨-, rfl, F', ps', f1, n1, s1, l1, l2⟩)
      · rw [ht] at q1; cases q1
      · exact ⟨rfl, F', ps', (Frm.of_below hb).trans f1 (New.refl _ _), (fun k hk => by
          rcases n1 k hk with q | q
          · exact .inl q
          · exact .inr (Nat.le_trans hb.size q)), s1, l1, l2⟩)
    have HT := Lib.hid ht
    have HLN := Lib.hid hlen
    clear hP h1 h2 h4 h5 hu hks hnk en ht hlen
    go_enter Try.func12, Try.ntmps12
    go_upto_region 1 with fail
    go_cut [15] (fun q wx => q = .bool false ∧ ∃ F' ps', Frm Fr w wx ∧ New w Fr F' ∧ Sub B d wx F' g [] ps' (ePut es k id) ∧ ps.length ≤ ps'.length ∧ ps'.length ≤ ps.length + 1)
    case first =>
      go_region_with (go_at_call 32; refine (HC.out w.drew ((Below.refl _ _).drew)).mono ?_; rintro e w2 ⟨rfl, hx⟩; have HX := Lib.hid hx; clear hx)
      all_goals
        go_wp2_with fail
        go_meet
        exact ⟨rfl, HX.out⟩
    case rest =>
      obtain ⟨rfl, F', ps', f1, n1, s1, l1, l2⟩ := hcut
      have h1c : wc.heap[t]? = some (.cells #[.pointer (some ⟨g, 0, none⟩), .int .i64 (n : Nat)] 71 (0, 0)) := (f1.heap lt H5.out).trans H1.out
      have d0 : wc.cell? ⟨t, 0, none⟩ = some (.pointer (some ⟨g, 0, none⟩)) := by rw [cell_of_block h1c]; rfl
      have d1 : wc.cell? ⟨t, 1, none⟩ = some (.int .i64 (n : Nat)) := by rw [cell_of_block h1c]; rfl
      have e0 := unfrozen_of_block h1c 0
      have e1 := unfrozen_of_block h1c 1
      have ltc : t < wc.heap.size := Nat.lt_of_lt_of_le lt f1.size
      have hF't : ¬ F' t := fun hk => by
        rcases n1 t hk with q | q
        · exact H5.out q
        · omega
      have hgF : F' g := by obtain ⟨v, G, ss⟩ := s1; rw [ss.foot]; exact .inl rfl
      have hgt : ¬ t = g := fun e => hF't (by rw [e]; exact hgF)
      have lgc : g < wc.heap.size := (s1.low g hgF).2
      obtain ⟨a', cap', y0⟩ : ∃ a' cap', wc.cell? ⟨g, 0, none⟩ = some (.slice a' ps'.length cap') := by
        obtain ⟨v, G, ss⟩ := s1
        obtain ⟨a', cap', rfl, -⟩ := ss.nd.form
        exact ⟨a', cap', ss.nd.cell.1⟩
      obtain ⟨m', em⟩ : ∃ m', ps'.length = m' := ⟨_, rfl⟩
      rw [em] at y0 l1 l2
      have hw1 : IntKind.i64.wrap ((n : Int) + 1) = (n : Int) + 1 := IntWalk.i64_in _ (by omega)
      have F1 := Lib.hid f1
      have N1 := Lib.hid n1
      have S1 := Lib.hid s1
      have EM := Lib.hid em
      have FT := Lib.hid hF't
      have H1C := Lib.hid h1c
      clear f1 n1 s1 em hF't hgF h1c
      by_cases h9 : 8 < m'
      · have HH := Lib.hid (grown_root HP.out F1.out N1.out S1.out EM.out FT.out H1C.out HLN.out HT.out h6 H5.out (by omega) (by omega) ltc)
        go_wp2_with (go_at_call 33; refine HH.out.mono ?_; rintro e w6 ⟨rfl, hx⟩; have HX := Lib.hid hx; clear hx)
        exact HX.out
      · have h9' : decide ((8 : Int) < (m' : Int)) = false := by simp; omega
        go_wp2_with fail
        rw [← HP.out]
        have fs : Frm (fun k => k = t) wc (wc.setCell ⟨t, 1, none⟩ (.int .i64 ((n : Int) + 1))) := Frm.set1 (F := fun k => k = t) wc rfl 1 _
        refine ⟨by rw [HT.out]; rfl, fun k => k = t ∨ F' k, ?_, ?_, d, F', g, ps', ?_, S1.out.step fs (fun k hk e => FT.out (by rw [← e]; exact hk)), by rw [EM.out]; omega, ?_, FT.out, h6, rfl⟩
        · exact (F1.out.mono (fun k hk => .inr hk)).trans (F1 := fun k => k = t) fs (fun k hk => .inl (.inl hk))
        · rintro k (rfl | hk)
          · exact .inl (.inl rfl)
          · rcases N1.out k hk with q | q
            · exact .inl (.inr q)
            · exact .inr q
        · rw [HLN.out]
          exact (tree_put H1C.out).2
        · rcases H4.out with q | q
          · exact .inl q
          · exact .inr (by rw [EM.out]; omega)

end Go.Proofs.Ytncganfjbalkgaa
