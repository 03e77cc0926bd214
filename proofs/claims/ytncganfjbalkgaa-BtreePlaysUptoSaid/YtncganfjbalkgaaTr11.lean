/-
  drop from a tree of any depth: a contract over the translation.
  Conditions: the tree lies in memory.
-/
import Derived.Test.YtncganfjbalkgaaTr10
namespace Go.Proofs.Ytncganfjbalkgaa
open Go.RowKit Go.Joins Go.ChangeShapes Go.WideShapes
set_option linter.unusedVariables false

theorem refill_any (B d : Nat) (w : World) (g : Nat) (v : Value) (G : Bl) (A C : List Kd) (c : Kd) (h : Nod B d w g v G (A ++ c :: C)) (h3 : c.ps.length = 3) (hsA : Sz A) (hsC : Sz C) (hne : 1 ≤ A.length + C.length) (hn : A.length + C.length ≤ 1073741824) :
    Calls Try.prog 46 #[.pointer (some ⟨g, 0, none⟩), .int .i64 (A.length : Nat)] w fun e w' => ∃ v' G' ks, e = .returned (.tuple #[]) ∧ Nod B d w' g v' G' ks ∧ Sz ks ∧ ks.flatMap Kd.es = (A ++ c :: C).flatMap Kd.es ∧ ks.head?.map Kd.k = (A ++ c :: C).head?.map Kd.k ∧
      A.length + C.length ≤ ks.length ∧ ks.length ≤ A.length + C.length + 1 ∧ Frm (Fo g v G) w w' ∧ New w (Fo g v G) (Fo g v' G') := by
  rcases List.eq_nil_or_concat A with rfl | ⟨A', c0, rfl⟩
  · cases C with
    | nil => simp at hne
    | cons c2 C' =>
      have hc2 := hsC c2 (List.mem_cons_self ..)
      have := refill_two B d w g v G [] C' c c2 h (by omega) (by omega) (by omega) (by omega) hsA (hsC.part (fun _ h => List.mem_cons_of_mem _ h)) (by simp at hn ⊢; omega) 0 (.inr ⟨rfl, rfl⟩)
      refine this.mono ?_
      rintro e w' ⟨v', G', ks, h1, h2, h3, h4, h5, h6, h7, h8, h9⟩
      exact ⟨v', G', ks, h1, h2, h3, h4, h5, by simp at h6 ⊢; omega, by simp at h7 ⊢; omega, h8, h9⟩
  · rw [List.concat_eq_append] at *
    have hc0 := hsA c0 (List.mem_append_right _ (List.mem_cons_self ..))
    have e1 : A' ++ [c0] ++ c :: C = A' ++ c0 :: c :: C := by simp
    rw [e1] at h ⊢
    have := refill_two B d w g v G A' C c0 c h (by omega) (by omega) (by omega) (by omega) (hsA.part (fun _ h => List.mem_append_left _ h)) hsC (by simp at hn ⊢; omega) ((A' ++ [c0]).length : Nat) (.inl (by simp))
    refine this.mono ?_
    rintro e w' ⟨v', G', ks, h1, h2, h3, h4, h5, h6, h7, h8, h9⟩
    exact ⟨v', G', ks, h1, h2, h3, h4, h5, by simp; omega, by simp; omega, h8, h9⟩

/-- what drop answers, and leaves -/
def DropPost (B d : Nat) (w : World) (F : Bl) (g : Nat) (lo : List Nat) (ps : List Pv) (es : List Ent) (k : List Nat) (e : Ending) (w' : World) : Prop :=
  ((ePl es k).2 = false ∧ e = .returned (.bool false) ∧ Below w.heap.size w w') ∨
  ((ePl es k).2 = true ∧ e = .returned (.bool true) ∧ ∃ F' ps', Frm F w w' ∧ New w F F' ∧ Sub B d w' F' g lo ps' (eDel es k) ∧ ps'.length ≤ ps.length ∧ ps.length ≤ ps'.length + 1)

set_option maxHeartbeats 4000000 in
set_option maxRecDepth 100000 in
theorem drop_leaf (B : Nat) (w : World) (F : Bl) (g : Nat) (lo : List Nat) (ps : List Pv) (es : List Ent) (h : Sub B 0 w F g lo ps es) (hn : ps.length ≤ 2147483648) (s : ByteArray) :
    Calls Try.prog 34 #[.pointer (some ⟨g, 0, none⟩), .string s] w (DropPost B 0 w F g lo ps es (sl s)) := by
  have HLF := Lib.hid (isleaf_sub0 h (by omega))
  obtain ⟨v, G, h⟩ := h
  obtain ⟨hG, hnone, hes, hsrt, hall⟩ := h.con
  have HFD := Lib.hid (find_any B w g v ps h.nd (by rw [← hes]; exact hsrt) (by omega) s)
  rw [← hes] at HFD
  generalize hP : DropPost B 0 w F g lo ps es (sl s) = P
  have hle := (ePl_le es (sl s))
  have hl : es.length = ps.length := by rw [hes]; unfold ents; rw [List.length_map]
  have hdel : eDel es (sl s) = if (ePl es (sl s)).2 then es.take (ePl es (sl s)).1 ++ es.drop ((ePl es (sl s)).1 + 1) else es := rfl
  have hsp := eDel_srt (k := sl s) hsrt
  obtain ⟨T, hT⟩ : ∃ T, ePl es (sl s) = T := ⟨_, rfl⟩
  have HT := Lib.hid hT
  rw [hT] at HFD hdel hle
  obtain ⟨i, t⟩ := T
  dsimp only at HFD hdel hle
  have HP := Lib.hid hP
  have HN := Lib.hid h.nd
  have hbg : B ≤ w.heap.size := Nat.le_trans h.nd.bg (Nat.le_of_lt h.nd.lt)
  have lg := h.nd.lt
  have hne := h.nd.ne
  cases t with
  | false =>
    clear h hP hT hdel hall hes hsrt hle hsp hne hG hnone
    go_enter Try.func34, Try.ntmps34
    go_wp2_with (first | (go_at_call 35; refine HLF.out.mono ?_; rintro e w1 ⟨rfl, rfl⟩) | (go_at_call 41; refine HFD.out.mono ?_; rintro e w1 ⟨rfl, b1⟩; have HB1 := Lib.hid b1; clear b1))
    rw [← HP.out]
    exact .inl ⟨by rw [HT.out], rfl, HB1.out⟩
  | true =>
    rw [if_pos rfl] at hdel
    have hil : i < ps.length := by have := hle.2 rfl; omega
    have hents : eDel es (sl s) = ents (ps.take i ++ ps.drop (i + 1)) := by
      rw [hdel, hes]; unfold ents; simp
    have hlen : (ps.take i ++ ps.drop (i + 1)).length = ps.length - 1 := by rw [List.length_append, List.length_take, List.length_drop]; omega
    have HFIN := Lib.hid (show ∀ wx w6 v7, Below w.heap.size w wx → OwP w6 B v7 (ps.take i ++ ps.drop (i + 1)) → v7.ownBlock = v.ownBlock → wx.grownBy w6 v.ownBlock → P (.returned (.bool true)) (w6.setCell ⟨g, 0, none⟩ v7) by
      intro wx w6 v7 hbx o7 b7 g7
      have hg6 : w6.heap[g]? = some (.cells #[v] 69 (0, 0)) := by
        rw [g7.block g (Nat.lt_of_lt_of_le lg hbx.size) (fun e => hne e.symm), hbx.block g lg]
        exact HN.out.hd
      have n0 : NdAt B (w6.setCell ⟨g, 0, none⟩ v7) g v7 (ps.take i ++ ps.drop (i + 1)) :=
        ⟨node_put hg6, (Frm.set1 (F := fun k => k = g) w6 rfl 0 _).owP o7 (fun k hk e => own_ne o7 hg6 (by decide) (by rw [hk, e])), HN.out.bg⟩
      have hf : Frm F w (w6.setCell ⟨g, 0, none⟩ v7) := by
        refine Frm.setCell ((Frm.of_below hbx).trans (F1 := fun k => v.ownBlock = some k) (Frm.ofGrown g7 (fun k e => e)) ?_) (.inl ?_) 0 v7
        · intro k hk
          rw [h.foot]
          exact .inl (.inr (.inl hk))
        · rw [h.foot]; exact .inl rfl
      rw [← HP.out]
      refine .inr ⟨by rw [HT.out], rfl, Fo g v7 (fun _ => False), _, hf, ?_, ⟨v7, fun _ => False, n0, ⟨rfl, ?_, hents, hsp, ?_⟩, fun k hk => hk.elim, rfl⟩, ?_, ?_⟩
      · intro k hk
        rcases hk with hk | hk | hk
        · exact .inl (by rw [h.foot]; exact .inl hk)
        · exact .inl (by rw [h.foot]; exact .inr (.inl (by rw [← b7]; exact hk)))
        · exact hk.elim
      · intro p hp
        rcases List.mem_append.1 hp with hp | hp
        · exact hnone p (List.mem_of_mem_take hp)
        · exact hnone p (List.mem_of_mem_drop hp)
      · intro e he
        exact hall e (eDel_mem he)
      · rw [hlen]; omega
      · rw [hlen]; omega)
    have HD := Lib.hid (fun wx (hb : Below w.heap.size w wx) => by
      have := del_any B wx v ps (HN.out.below hb).own (by omega) i (i + 1) (by omega) (by omega)
      rw [show ((i + 1 : Nat) : Int) = (i : Int) + 1 by omega] at this
      exact this)
    obtain ⟨a, cap, rfl, -⟩ := h.nd.form
    have HNE := Lib.hid hne
    obtain ⟨c0, -⟩ := HN.out.cell
    have hw1 : IntKind.i64.wrap ((i : Int) + 1) = (i : Int) + 1 := IntWalk.i64_in _ (by omega)
    clear h hP hT hdel hall hes hsrt hle hsp hne hents hG hnone hlen
    go_enter Try.func34, Try.ntmps34
    go_wp2_with (first | (go_at_call 35; refine HLF.out.mono ?_; rintro e w1 ⟨rfl, rfl⟩) | (go_at_call 41; refine HFD.out.mono ?_; rintro e w1 ⟨rfl, b1⟩; obtain ⟨c1, c1f⟩ := (HN.out.below b1).cell; have HB1 := Lib.hid b1; clear b1) | (go_at_call 45; refine (HD.out _ HB1.out).mono ?_; rintro e w6 ⟨v7, rfl, o7, b7, g7⟩; obtain ⟨a7, m7, k7, rfl⟩ := o7.form'; obtain ⟨x6, x6f, -⟩ := head_grown (HN.out.below HB1.out).hd g7 HNE.out; have HX := Lib.hid (HFIN.out _ _ _ HB1.out o7 b7 g7); clear o7 g7 b7))
    all_goals exact HX.out

set_option maxHeartbeats 4000000 in
set_option maxRecDepth 100000 in
theorem drop_node (B d : Nat) (s : ByteArray) (IH : ∀ (w : World) (F : Bl) (g : Nat) (lo : List Nat) (ps : List Pv) (es : List Ent), Sub B d w F g lo ps es → ps.length ≤ 8 → 2 ≤ ps.length → ¬ klt (sl s) lo →
      Calls Try.prog 34 #[.pointer (some ⟨g, 0, none⟩), .string s] w (DropPost B d w F g lo ps es (sl s)))
    (w : World) (F : Bl) (g : Nat) (lo : List Nat) (ps : List Pv) (es : List Ent) (h : Sub B (d + 1) w F g lo ps es) (hn : ps.length ≤ 8) (hn2 : 2 ≤ ps.length) (hlo : ¬ klt (sl s) lo) :
    Calls Try.prog 34 #[.pointer (some ⟨g, 0, none⟩), .string s] w (DropPost B (d + 1) w F g lo ps es (sl s)) := by
  obtain ⟨v, G, ks, nod, hsz, rfl, rfl, hl, rfl⟩ := h.nod
  obtain ⟨A, c, C, rfl, hch, hkc, hkC, hA, hC⟩ := nod.at hl hlo
  have hmid := ePl_mid (m := c.es) hA hC
  have hmidp := eDel_mid (m := c.es) hA hC
  rw [← flat_mid] at hmid
  have hcm : c ∈ A ++ c :: C := List.mem_append_right _ (List.mem_cons_self ..)
  have hlen : A.length + 1 + C.length ≤ 8 := by simp at hn; omega
  have hlen2 : 1 ≤ A.length + C.length := by simp at hn2; omega
  have HLF := Lib.hid (isleaf_nod nod (by simp) (by simp; omega))
  have HCH := Lib.hid (child_any B w g v _ nod.nd nod.kids.srt (by simp; omega) s)
  rw [hch] at HCH
  have HIH := Lib.hid (fun w1 (hb : Below w.heap.size w w1) => IH w1 c.F c.g c.k c.ps c.es ((nod.kids.sub c hcm).below hb) (hsz c hcm).2 (by have := (hsz c hcm).1; omega) hkc)
  have hpv : ((A ++ c :: C).map Kd.pv)[A.length]? = some c.pv := by rw [List.getElem?_map, List.getElem?_append_right (Nat.le_refl _), Nat.sub_self]; rfl
  have HAT := Lib.hid (fun w1 (hb : Below w.heap.size w w1) => (nod.nd.below hb).own.at hpv)
  obtain ⟨gb, cap, rfl, k1, k2, -, -, d1, -⟩ := nod.nd.own.at hpv
  have ln : ((A ++ c :: C).map Kd.pv).length = A.length + 1 + C.length := by simp; omega
  generalize hP : DropPost B (d + 1) w (Fo g (.slice (some ⟨gb, 0, none⟩) ((A ++ c :: C).map Kd.pv).length cap) G) g lo ((A ++ c :: C).map Kd.pv) ((A ++ c :: C).flatMap Kd.es) (sl s) = P
  have HP := Lib.hid hP
  have HM := Lib.hid hmid
  have HMP := Lib.hid hmidp
  have HND := Lib.hid nod
  have HSZ := Lib.hid hsz
  have HHL := Lib.hid hl
  have HKC := Lib.hid hkC
  have HCS := Lib.hid (hsz c hcm)
  have HLN := Lib.hid ln
  obtain ⟨a, ea⟩ : ∃ n, A.length = n := ⟨_, rfl⟩
  obtain ⟨b, eb⟩ : ∃ n, C.length = n := ⟨_, rfl⟩
  have HA := Lib.hid ea
  have HB := Lib.hid eb
  have HAT2 := Lib.hid (show ∀ w1, Below w.heap.size w w1 → w1.cell? ⟨g, 0, none⟩ = some (.slice (some ⟨gb, 0, none⟩) (a + 1 + b) cap) ∧ w1.cell? ⟨gb, a * 3 + 2, none⟩ = some (.pointer (some ⟨c.g, 0, none⟩)) by
    intro w1 hb
    obtain ⟨c0, -⟩ := (nod.nd.below hb).cell
    rw [ln, ea, eb] at c0
    obtain ⟨gb', cap', e, -, -, -, -, d1, -⟩ := HAT.out w1 hb
    injection e with e
    injection e with e
    injection e with e
    subst e
    rw [ea] at d1
    exact ⟨c0, d1⟩)
  have hk0 : (a : Int) < (a : Int) + 1 + (b : Int) := by omega
  rw [ea] at HCH hlen hlen2
  rw [eb] at hlen hlen2
  clear hP hmid hmidp nod hsz hl hkC ln ea eb HAT d1 hpv h hch hA hC hn hcm k1 hn2
  cases ht : (ePl c.es (sl s)).2 with
  | false =>
    have HPT := Lib.hid (show ∀ w1, Below w.heap.size w w1 → Calls Try.prog 34 #[.pointer (some ⟨c.g, 0, none⟩), .string s] w1 fun e w2 => e = .returned (.bool false) ∧ Below w1.heap.size w1 w2 by
      intro w1 hb
      refine (HIH.out w1 hb).mono ?_
      rintro e w2 (⟨-, h1, h2⟩ | ⟨h1, -⟩)
      · exact ⟨h1, h2⟩
      · rw [ht] at h1; cases h1)
    have HT := Lib.hid ht
    clear ht
    go_enter Try.func34, Try.ntmps34
    go_wp2_with (first | (go_at_call 35; refine HLF.out.mono ?_; rintro e w1 ⟨rfl, rfl⟩) | (go_at_call 43; refine HCH.out.mono ?_; rintro e w1 ⟨rfl, b1⟩; obtain ⟨z1, z2⟩ := HAT2.out _ b1; have HB1 := Lib.hid b1; clear b1) | (go_at_call 34; refine (HPT.out _ HB1.out).mono ?_; rintro e w2 ⟨rfl, b2⟩; have HB2 := Lib.hid b2; clear b2))
    rw [← HP.out]
    exact .inl ⟨by rw [HM.out]; exact HT.out, rfl, stepB HB1.out HB2.out⟩
  | true =>
    have HPF := Lib.hid (show ∀ w1, Below w.heap.size w w1 → Calls Try.prog 34 #[.pointer (some ⟨c.g, 0, none⟩), .string s] w1 fun e w2 => e = .returned (.bool true) ∧ ∃ (ps' : List Pv) (G2 : Bl) (c' : Kd) (a' : Option Addr) (cap' : Nat), Frm (Fo g (.slice (some ⟨gb, 0, none⟩) ((A ++ c :: C).map Kd.pv).length cap) G) w w2 ∧
          Nod B d w2 g (.slice (some ⟨gb, 0, none⟩) ((A ++ c :: C).map Kd.pv).length cap) G2 (A ++ c' :: C) ∧ New w (Fo g (.slice (some ⟨gb, 0, none⟩) ((A ++ c :: C).map Kd.pv).length cap) G) (Fo g (.slice (some ⟨gb, 0, none⟩) ((A ++ c :: C).map Kd.pv).length cap) G2) ∧
          c'.key = c.key ∧ c'.g = c.g ∧ c'.ps = ps' ∧ c'.es = eDel c.es (sl s) ∧ 3 ≤ ps'.length ∧ ps'.length ≤ 8 ∧ w2.cell? ⟨c.g, 0, none⟩ = some (.slice a' ps'.length cap') by
      intro w1 hb
      refine (HIH.out w1 hb).mono ?_
      rintro e w2 (⟨h1, -⟩ | ⟨-, rfl, F', ps', f1, n1, s1, l1, l2⟩)
      · rw [ht] at h1; cases h1
      · obtain ⟨G2, nod2, new2⟩ := (HND.out.below hb).kid f1 n1 s1 (fun e he x hx => by
          have he := eDel_mem he
          have hr := List.pairwise_append.1 HND.out.kids.rise
          exact ((List.pairwise_cons.1 hr.2.1).1 x hx).2.1 e he)
        obtain ⟨vv, GG, ss⟩ := s1
        obtain ⟨a', cap', rfl, -⟩ := ss.nd.form
        have hcs := HCS.out
        have hcF : ∀ k, c.F k → Fo g (.slice (some ⟨gb, 0, none⟩) ((A ++ c :: C).map Kd.pv).length cap) G k := fun k hk => .inr (.inr (by rw [HND.out.kids.foot]; exact ⟨c, List.mem_append_right _ (List.mem_cons_self ..), hk⟩))
        refine ⟨rfl, ps', G2, _, a', cap', (Frm.of_below hb).trans f1 (fun k hk => .inl (hcF k hk)), nod2, ?_, rfl, rfl, rfl, rfl, by omega, by omega, ss.nd.cell.1⟩
        intro k hk
        rcases new2 k hk with q | q
        · exact .inl q
        · exact .inr (Nat.le_trans hb.size q))
    have HT := Lib.hid ht
    clear ht
    go_enter Try.func34, Try.ntmps34
    go_upto_region 11 with (first | (go_at_call 35; refine HLF.out.mono ?_; rintro e w1 ⟨rfl, rfl⟩) | (go_at_call 43; refine HCH.out.mono ?_; rintro e w1 ⟨rfl, b1⟩; obtain ⟨z1, z2⟩ := HAT2.out _ b1; have HB1 := Lib.hid b1; clear b1) | (go_at_call 34; refine (HPF.out _ HB1.out).mono ?_; rintro e w2 ⟨rfl, hx⟩; have HX := Lib.hid hx; clear hx))
    obtain ⟨ps', G2, c', a', cap', f2, nod2, new2, ck, cg, cp, ce, l1, l2, y0⟩ := HX.out
    obtain ⟨m, em⟩ : ∃ m, ps'.length = m := ⟨_, rfl⟩
    rw [em] at l1 l2 y0
    have hes : (A ++ c' :: C).flatMap Kd.es = eDel ((A ++ c :: C).flatMap Kd.es) (sl s) := by
      rw [flat_mid, ce, flat_mid, HMP.out]
    have hhd : ((A ++ c' :: C).head?.map Kd.k) = some lo := heads HHL.out ck
    have hsA : Sz A := fun x hx => HSZ.out x (List.mem_append_left _ hx)
    have hsC : Sz C := fun x hx => HSZ.out x (List.mem_append_right _ (List.mem_cons_of_mem _ hx))
    have HF := Lib.hid f2
    have HNW := Lib.hid new2
    have HES := Lib.hid hes
    have HHD := Lib.hid hhd
    have HCL := Lib.hid (show c'.ps.length = m by rw [cp]; exact em)
    by_cases h9 : m < 4
    · obtain rfl : m = 3 := by omega
      have HHV := Lib.hid (refill_any B d w2 g _ G2 A C c' nod2 HCL.out hsA hsC (by have := HA.out; have := HB.out; omega) (by have := HA.out; have := HB.out; omega))
      rw [HA.out] at HHV
      clear f2 nod2 new2 ck cg cp ce l1 l2 HX em hes hhd hsA hsC
      go_wp2_with (go_at_call 46; refine HHV.out.mono ?_; rintro e w3 ⟨v3, G3, kt, rfl, hx⟩; have HX3 := Lib.hid hx; clear hx)
      obtain ⟨nod3, k1, k2, k3, k4, k5, f3, new3⟩ := HX3.out
      rw [HB.out] at k4 k5
      rw [← HP.out]
      refine .inr ⟨by rw [HM.out]; exact HT.out, rfl, Fo g v3 G3, kt.map Kd.pv, HF.out.trans f3 HNW.out, HNW.out.trans new3 HF.out.size, ?_, ?_, ?_⟩
      · have := nod3.sub (lo := lo) k1 (k3.trans HHD.out)
        rw [k2, HES.out] at this
        exact this
      · rw [HLN.out, List.length_map, HA.out, HB.out]; omega
      · rw [HLN.out, List.length_map, HA.out, HB.out]; omega
    · have h9' : decide ((m : Int) < 4) = false := by simp; omega
      have h9n : 4 ≤ m := by omega
      have HND2 := Lib.hid nod2
      have HSA := Lib.hid hsA
      have HSC := Lib.hid hsC
      clear f2 nod2 new2 ck cg cp ce HX em hes hhd hsA hsC
      go_wp2_with fail
      rw [← HP.out]
      refine .inr ⟨by rw [HM.out]; exact HT.out, rfl, _, (A ++ c' :: C).map Kd.pv, HF.out, HNW.out, ?_, ?_, ?_⟩
      · have := HND2.out.sub (lo := lo) (fun x hx => by
          rcases List.mem_append.1 hx with hx | hx
          · exact HSA.out x hx
          · rcases List.mem_cons.1 hx with rfl | hx
            · rw [HCL.out]; omega
            · exact HSC.out x hx) HHD.out
        rw [HES.out] at this
        exact this
      · simp only [List.length_map, List.length_append, List.length_cons]; omega
      · simp only [List.length_map, List.length_append, List.length_cons]; omega

theorem drop_d (B : Nat) (s : ByteArray) : ∀ (d : Nat) (w : World) (F : Bl) (g : Nat) (lo : List Nat) (ps : List Pv) (es : List Ent), Sub B d w F g lo ps es → ps.length ≤ 8 → (d = 0 ∨ 2 ≤ ps.length) → ¬ klt (sl s) lo →
    Calls Try.prog 34 #[.pointer (some ⟨g, 0, none⟩), .string s] w (DropPost B d w F g lo ps es (sl s))
  | 0, w, F, g, lo, ps, es, h, hn, _, hlo => drop_leaf B w F g lo ps es h (by omega) s
  | d + 1, w, F, g, lo, ps, es, h, hn, h2, hlo => drop_node B d s (fun w F g lo ps es h hn h2 hlo => drop_d B s d w F g lo ps es h hn (.inr h2) hlo) w F g lo ps es h hn (by rcases h2 with h2 | h2; cases h2; exact h2) hlo

end Go.Proofs.Ytncganfjbalkgaa
