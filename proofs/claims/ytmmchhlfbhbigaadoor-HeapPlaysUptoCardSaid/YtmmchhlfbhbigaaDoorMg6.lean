/-
  Texts of mine put together, in build order.
  Conditions: as each declaration says.
-/
import Derived.Deep.LoopGhost
import Derived.BigQuiet
import Derived.Lib.ConvBytes
import Derived.Test.YtmmchhlfbhbigaaDoorMg5
namespace Go.Proofs.YtmmchhlfbhbigaaDoor
set_option maxRecDepth 100000
open Go.RowKit Go.Joins Go.ChangeShapes Go.WideShapes
set_option linter.unusedVariables false

theorem refill_any (B d : Nat) (w : World) (g : Nat) (v : Value) (G : Bl) (A C : List Kd) (c : Kd) (h : Nod B d w g v G (A ++ c :: C)) (h3 : c.ps.length = 3) (hsA : Sz A) (hsC : Sz C) (hne : 1 ≤ A.length + C.length) (hn : A.length + C.length ≤ 1073741824) :
    Calls Tryd.prog 97 #[.pointer (some ⟨g, 0, none⟩), .int .i64 (A.length : Nat)] w fun e w' => ∃ v' G' ks, e = .returned (.tuple #[]) ∧ Nod B d w' g v' G' ks ∧ Sz ks ∧ ks.flatMap Kd.es = (A ++ c :: C).flatMap Kd.es ∧ ks.head?.map Kd.k = (A ++ c :: C).head?.map Kd.k ∧
      A.length + C.length ≤ ks.length ∧ ks.length ≤ A.length + C.length + 1 ∧ Frm (Fo g v G) w w' ∧ New w (Fo g v G) (Fo g v' G') := by
  rcases List.eq_nil_or_concat A with rfl | ⟨A', c0, rfl⟩
  · cases C with
    | nil => simp at hne
    | cons c2 C' =>
      have hc2 := hsC c2 (List.mem_cons_self ..)
      have := refill_two B d w g v G [] C' c c2 h (by omega) (by omega) (by omega) (by omega) hsA (hsC.part (fun _ h => List.mem_cons_of_mem _ h)) (by simp at hn ⊢; omega) 0 (.inr ⟨rfl, rfl⟩)
      refine this.mono ?_
      rintro e w' ⟨v', G', ks, h1, h2, h3, h4, h5, h6, h7, h8, h9⟩
      exact ⟨v', G', ks, h1, h2, h3, h4, h5, by simp at h6 ⊢; omega, by simp at h7 ⊢; omega, h8, h9⟩
  · rw [List.concat_eq_append] at *
    have hc0 := hsA c0 (List.mem_append_right _ (List.mem_cons_self ..))
    have e1 : A' ++ [c0] ++ c :: C = A' ++ c0 :: c :: C := by simp
    rw [e1] at h ⊢
    have := refill_two B d w g v G A' C c0 c h (by omega) (by omega) (by omega) (by omega) (hsA.part (fun _ h => List.mem_append_left _ h)) hsC (by simp at hn ⊢; omega) ((A' ++ [c0]).length : Nat) (.inl (by simp))
    refine this.mono ?_
    rintro e w' ⟨v', G', ks, h1, h2, h3, h4, h5, h6, h7, h8, h9⟩
    exact ⟨v', G', ks, h1, h2, h3, h4, h5, by simp; omega, by simp; omega, h8, h9⟩

/-- what drop answers, and leaves -/
def DropPost (B d : Nat) (w : World) (F : Bl) (g : Nat) (lo : List Nat) (ps : List Pv) (es : List Ent) (k : List Nat) (e : Ending) (w' : World) : Prop :=
  ((ePl es k).2 = false ∧ e = .returned (.bool false) ∧ Below w.heap.size w w') ∨
  ((ePl es k).2 = true ∧ e = .returned (.bool true) ∧ ∃ F' ps', Frm F w w' ∧ New w F F' ∧ Sub B d w' F' g lo ps' (eDel es k) ∧ ps'.length ≤ ps.length ∧ ps.length ≤ ps'.length + 1)

set_option maxHeartbeats 4000000 in
set_option maxRecDepth 100000 in
theorem drop_leaf (B : Nat) (w : World) (F : Bl) (g : Nat) (lo : List Nat) (ps : List Pv) (es : List Ent) (h : Sub B 0 w F g lo ps es) (hn : ps.length ≤ 2147483648) (s : ByteArray) :
    Calls Tryd.prog 66 #[.pointer (some ⟨g, 0, none⟩), .string s] w (DropPost B 0 w F g lo ps es (sl s)) := by
  have HLF := Lib.hid (isleaf_sub0 h (by omega))
  obtain ⟨v, G, h⟩ := h
  obtain ⟨hG, hnone, hes, hsrt, hall⟩ := h.con
  have HFD := Lib.hid (find_any B w g v ps h.nd (by rw [← hes]; exact hsrt) (by omega) s)
  rw [← hes] at HFD
  generalize hP : DropPost B 0 w F g lo ps es (sl s) = P
  have hle := (ePl_le es (sl s))
  have hl : es.length = ps.length := by rw [hes]; unfold ents; rw [List.length_map]
  have hdel : eDel es (sl s) = if (ePl es (sl s)).2 then es.take (ePl es (sl s)).1 ++ es.drop ((ePl es (sl s)).1 + 1) else es := rfl
  have hsp := eDel_srt (k := sl s) hsrt
  obtain ⟨T, hT⟩ : ∃ T, ePl es (sl s) = T := ⟨_, rfl⟩
  have HT := Lib.hid hT
  rw [hT] at HFD hdel hle
  obtain ⟨i, t⟩ := T
  dsimp only at HFD hdel hle
  have HP := Lib.hid hP
  have HN := Lib.hid h.nd
  have hbg : B ≤ w.heap.size := Nat.le_trans h.nd.bg (Nat.le_of_lt h.nd.lt)
  have lg := h.nd.lt
  have hne := h.nd.ne
  cases t with
  | false =>
    clear h hP hT hdel hall hes hsrt hle hsp hne hG hnone
    go_enter Tryd.func66, Tryd.ntmps66
    go_wp2_with (first | (go_at_call 67; refine HLF.out.mono ?_; rintro e w1 ⟨rfl, rfl⟩) | (go_at_call 94; refine HFD.out.mono ?_; rintro e w1 ⟨rfl, b1⟩; have HB1 := Lib.hid b1; clear b1))
    rw [← HP.out]
    exact .inl ⟨by rw [HT.out], rfl, HB1.out⟩
  | true =>
    rw [if_pos rfl] at hdel
    have hil : i < ps.length := by have := hle.2 rfl; omega
    have hents : eDel es (sl s) = ents (ps.take i ++ ps.drop (i + 1)) := by
      rw [hdel, hes]; unfold ents; simp
    have hlen : (ps.take i ++ ps.drop (i + 1)).length = ps.length - 1 := by rw [List.length_append, List.length_take, List.length_drop]; omega
    have HFIN := Lib.hid (show ∀ wx w6 v7, Below w.heap.size w wx → OwP w6 B v7 (ps.take i ++ ps.drop (i + 1)) → v7.ownBlock = v.ownBlock → wx.grownBy w6 v.ownBlock → P (.returned (.bool true)) (w6.setCell ⟨g, 0, none⟩ v7) by
      intro wx w6 v7 hbx o7 b7 g7
      have hg6 : w6.heap[g]? = some (.cells #[v] 124 (0, 0)) := by
        rw [g7.block g (Nat.lt_of_lt_of_le lg hbx.size) (fun e => hne e.symm), hbx.block g lg]
        exact HN.out.hd
      have n0 : NdAt B (w6.setCell ⟨g, 0, none⟩ v7) g v7 (ps.take i ++ ps.drop (i + 1)) :=
        ⟨node_put hg6, (Frm.set1 (F := fun k => k = g) w6 rfl 0 _).owP o7 (fun k hk e => own_ne o7 hg6 (by decide) (by rw [hk, e])), HN.out.bg⟩
      have hf : Frm F w (w6.setCell ⟨g, 0, none⟩ v7) := by
        refine Frm.setCell ((Frm.of_below hbx).trans (F1 := fun k => v.ownBlock = some k) (Frm.ofGrown g7 (fun k e => e)) ?_) (.inl ?_) 0 v7
        · intro k hk
          rw [h.foot]
          exact .inl (.inr (.inl hk))
        · rw [h.foot]; exact .inl rfl
      rw [← HP.out]
      refine .inr ⟨by rw [HT.out], rfl, Fo g v7 (fun _ => False), _, hf, ?_, ⟨v7, fun _ => False, n0, ⟨rfl, ?_, hents, hsp, ?_⟩, fun k hk => hk.elim, rfl⟩, ?_, ?_⟩
      · intro k hk
        rcases hk with hk | hk | hk
        · exact .inl (by rw [h.foot]; exact .inl hk)
        · exact .inl (by rw [h.foot]; exact .inr (.inl (by rw [← b7]; exact hk)))
        · exact hk.elim
      · intro p hp
        rcases List.mem_append.1 hp with hp | hp
        · exact hnone p (List.mem_of_mem_take hp)
        · exact hnone p (List.mem_of_mem_drop hp)
      · intro e he
        exact hall e (eDel_mem he)
      · rw [hlen]; omega
      · rw [hlen]; omega)
    have HD := Lib.hid (fun wx (hb : Below w.heap.size w wx) => by
      have := del_any B wx v ps (HN.out.below hb).own (by omega) i (i + 1) (by omega) (by omega)
      rw [show ((i + 1 : Nat) : Int) = (i : Int) + 1 by omega] at this
      exact this)
    obtain ⟨a, cap, rfl, -⟩ := h.nd.form
    have HNE := Lib.hid hne
    obtain ⟨c0, -⟩ := HN.out.cell
    have hw1 : IntKind.i64.wrap ((i : Int) + 1) = (i : Int) + 1 := IntWalk.i64_in _ (by omega)
    clear h hP hT hdel hall hes hsrt hle hsp hne hents hG hnone hlen
    go_enter Tryd.func66, Tryd.ntmps66
    go_wp2_with (first | (go_at_call 67; refine HLF.out.mono ?_; rintro e w1 ⟨rfl, rfl⟩) | (go_at_call 94; refine HFD.out.mono ?_; rintro e w1 ⟨rfl, b1⟩; obtain ⟨c1, c1f⟩ := (HN.out.below b1).cell; have HB1 := Lib.hid b1; clear b1) | (go_at_call 95; refine (HD.out _ HB1.out).mono ?_; rintro e w6 ⟨v7, rfl, o7, b7, g7⟩; obtain ⟨a7, m7, k7, rfl⟩ := o7.form'; obtain ⟨x6, x6f, -⟩ := head_grown (HN.out.below HB1.out).hd g7 HNE.out; have HX := Lib.hid (HFIN.out _ _ _ HB1.out o7 b7 g7); clear o7 g7 b7))
    all_goals exact HX.out

set_option maxHeartbeats 4000000 in
set_option maxRecDepth 100000 in
theorem drop_node (B d : Nat) (s : ByteArray) (IH : ∀ (w : World) (F : Bl) (g : Nat) (lo : List Nat) (ps : List Pv) (es : List Ent), Sub B d w F g lo ps es → ps.length ≤ 8 → 2 ≤ ps.length → ¬ klt (sl s) lo →
      Calls Tryd.prog 66 #[.pointer (some ⟨g, 0, none⟩), .string s] w (DropPost B d w F g lo ps es (sl s)))
    (w : World) (F : Bl) (g : Nat) (lo : List Nat) (ps : List Pv) (es : List Ent) (h : Sub B (d + 1) w F g lo ps es) (hn : ps.length ≤ 8) (hn2 : 2 ≤ ps.length) (hlo : ¬ klt (sl s) lo) :
    Calls Tryd.prog 66 #[.pointer (some ⟨g, 0, none⟩), .string s] w (DropPost B (d + 1) w F g lo ps es (sl s)) := by
  obtain ⟨v, G, ks, nod, hsz, rfl, rfl, hl, rfl⟩ := h.nod
  obtain ⟨A, c, C, rfl, hch, hkc, hkC, hA, hC⟩ := nod.at hl hlo
  have hmid := ePl_mid (m := c.es) hA hC
  have hmidp := eDel_mid (m := c.es) hA hC
  rw [← flat_mid] at hmid
  have hcm : c ∈ A ++ c :: C := List.mem_append_right _ (List.mem_cons_self ..)
  have hlen : A.length + 1 + C.length ≤ 8 := by simp at hn; omega
  have hlen2 : 1 ≤ A.length + C.length := by simp at hn2; omega
  have HLF := Lib.hid (isleaf_nod nod (by simp) (by simp; omega))
  have HCH := Lib.hid (child_any B w g v _ nod.nd nod.kids.srt (by simp; omega) s)
  rw [hch] at HCH
  have HIH := Lib.hid (fun w1 (hb : Below w.heap.size w w1) => IH w1 c.F c.g c.k c.ps c.es ((nod.kids.sub c hcm).below hb) (hsz c hcm).2 (by have := (hsz c hcm).1; omega) hkc)
  have hpv : ((A ++ c :: C).map Kd.pv)[A.length]? = some c.pv := by rw [List.getElem?_map, List.getElem?_append_right (Nat.le_refl _), Nat.sub_self]; rfl
  have HAT := Lib.hid (fun w1 (hb : Below w.heap.size w w1) => (nod.nd.below hb).own.at hpv)
  obtain ⟨gb, cap, rfl, k1, k2, -, -, d1, -⟩ := nod.nd.own.at hpv
  have ln : ((A ++ c :: C).map Kd.pv).length = A.length + 1 + C.length := by simp; omega
  generalize hP : DropPost B (d + 1) w (Fo g (.slice (some ⟨gb, 0, none⟩) ((A ++ c :: C).map Kd.pv).length cap) G) g lo ((A ++ c :: C).map Kd.pv) ((A ++ c :: C).flatMap Kd.es) (sl s) = P
  have HP := Lib.hid hP
  have HM := Lib.hid hmid
  have HMP := Lib.hid hmidp
  have HND := Lib.hid nod
  have HSZ := Lib.hid hsz
  have HHL := Lib.hid hl
  have HKC := Lib.hid hkC
  have HCS := Lib.hid (hsz c hcm)
  have HLN := Lib.hid ln
  obtain ⟨a, ea⟩ : ∃ n, A.length = n := ⟨_, rfl⟩
  obtain ⟨b, eb⟩ : ∃ n, C.length = n := ⟨_, rfl⟩
  have HA := Lib.hid ea
  have HB := Lib.hid eb
  have HAT2 := Lib.hid (show ∀ w1, Below w.heap.size w w1 → w1.cell? ⟨g, 0, none⟩ = some (.slice (some ⟨gb, 0, none⟩) (a + 1 + b) cap) ∧ w1.cell? ⟨gb, a * 3 + 2, none⟩ = some (.pointer (some ⟨c.g, 0, none⟩)) by
    intro w1 hb
    obtain ⟨c0, -⟩ := (nod.nd.below hb).cell
    rw [ln, ea, eb] at c0
    obtain ⟨gb', cap', e, -, -, -, -, d1, -⟩ := HAT.out w1 hb
    injection e with e
    injection e with e
    injection e with e
    subst e
    rw [ea] at d1
    exact ⟨c0, d1⟩)
  have hk0 : (a : Int) < (a : Int) + 1 + (b : Int) := by omega
  rw [ea] at HCH hlen hlen2
  rw [eb] at hlen hlen2
  clear hP hmid hmidp nod hsz hl hkC ln ea eb HAT d1 hpv h hch hA hC hn hcm k1 hn2
  cases ht : (ePl c.es (sl s)).2 with
  | false =>
    have HPT := Lib.hid (show ∀ w1, Below w.heap.size w w1 → Calls Tryd.prog 66 #[.pointer (some ⟨c.g, 0, none⟩), .string s] w1 fun e w2 => e = .returned (.bool false) ∧ Below w1.heap.size w1 w2 by
      intro w1 hb
      refine (HIH.out w1 hb).mono ?_
      rintro e w2 (⟨-, h1, h2⟩ | ⟨h1, -⟩)
      · exact ⟨h1, h2⟩
      · rw [ht] at h1; cases h1)
    have HT := Lib.hid ht
    clear ht
    go_enter Tryd.func66, Tryd.ntmps66
    go_wp2_with (first | (go_at_call 67; refine HLF.out.mono ?_; rintro e w1 ⟨rfl, rfl⟩) | (go_at_call 96; refine HCH.out.mono ?_; rintro e w1 ⟨rfl, b1⟩; obtain ⟨z1, z2⟩ := HAT2.out _ b1; have HB1 := Lib.hid b1; clear b1) | (go_at_call 66; refine (HPT.out _ HB1.out).mono ?_; rintro e w2 ⟨rfl, b2⟩; have HB2 := Lib.hid b2; clear b2))
    rw [← HP.out]
    exact .inl ⟨by rw [HM.out]; exact HT.out, rfl, stepB HB1.out HB2.out⟩
  | true =>
    have HPF := Lib.hid (show ∀ w1, Below w.heap.size w w1 → Calls Tryd.prog 66 #[.pointer (some ⟨c.g, 0, none⟩), .string s] w1 fun e w2 => e = .returned (.bool true) ∧ ∃ (ps' : List Pv) (G2 : Bl) (c' : Kd) (a' : Option Addr) (cap' : Nat), Frm (Fo g (.slice (some ⟨gb, 0, none⟩) ((A ++ c :: C).map Kd.pv).length cap) G) w w2 ∧
          Nod B d w2 g (.slice (some ⟨gb, 0, none⟩) ((A ++ c :: C).map Kd.pv).length cap) G2 (A ++ c' :: C) ∧ New w (Fo g (.slice (some ⟨gb, 0, none⟩) ((A ++ c :: C).map Kd.pv).length cap) G) (Fo g (.slice (some ⟨gb, 0, none⟩) ((A ++ c :: C).map Kd.pv).length cap) G2) ∧
          c'.key = c.key ∧ c'.g = c.g ∧ c'.ps = ps' ∧ c'.es = eDel c.es (sl s) ∧ 3 ≤ ps'.length ∧ ps'.length ≤ 8 ∧ w2.cell? ⟨c.g, 0, none⟩ = some (.slice a' ps'.length cap') by
      intro w1 hb
      refine (HIH.out w1 hb).mono ?_
      rintro e w2 (⟨h1, -⟩ | ⟨-, rfl, F', ps', f1, n1, s1, l1, l2⟩)
      · rw [ht] at h1; cases h1
      · obtain ⟨G2, nod2, new2⟩ := (HND.out.below hb).kid f1 n1 s1 (fun e he x hx => by
          have he := eDel_mem he
          have hr := List.pairwise_append.1 HND.out.kids.rise
          exact ((List.pairwise_cons.1 hr.2.1).1 x hx).2.1 e he)
        obtain ⟨vv, GG, ss⟩ := s1
        obtain ⟨a', cap', rfl, -⟩ := ss.nd.form
        have hcs := HCS.out
        have hcF : ∀ k, c.F k → Fo g (.slice (some ⟨gb, 0, none⟩) ((A ++ c :: C).map Kd.pv).length cap) G k := fun k hk => .inr (.inr (by rw [HND.out.kids.foot]; exact ⟨c, List.mem_append_right _ (List.mem_cons_self ..), hk⟩))
        refine ⟨rfl, ps', G2, _, a', cap', (Frm.of_below hb).trans f1 (fun k hk => .inl (hcF k hk)), nod2, ?_, rfl, rfl, rfl, rfl, by omega, by omega, ss.nd.cell.1⟩
        intro k hk
        rcases new2 k hk with q | q
        · exact .inl q
        · exact .inr (Nat.le_trans hb.size q))
    have HT := Lib.hid ht
    clear ht
    go_enter Tryd.func66, Tryd.ntmps66
    go_upto_region 11 with (first | (go_at_call 67; refine HLF.out.mono ?_; rintro e w1 ⟨rfl, rfl⟩) | (go_at_call 96; refine HCH.out.mono ?_; rintro e w1 ⟨rfl, b1⟩; obtain ⟨z1, z2⟩ := HAT2.out _ b1; have HB1 := Lib.hid b1; clear b1) | (go_at_call 66; refine (HPF.out _ HB1.out).mono ?_; rintro e w2 ⟨rfl, hx⟩; have HX := Lib.hid hx; clear hx))
    obtain ⟨ps', G2, c', a', cap', f2, nod2, new2, ck, cg, cp, ce, l1, l2, y0⟩ := HX.out
    obtain ⟨m, em⟩ : ∃ m, ps'.length = m := ⟨_, rfl⟩
    rw [em] at l1 l2 y0
    have hes : (A ++ c' :: C).flatMap Kd.es = eDel ((A ++ c :: C).flatMap Kd.es) (sl s) := by
      rw [flat_mid, ce, flat_mid, HMP.out]
    have hhd : ((A ++ c' :: C).head?.map Kd.k) = some lo := heads HHL.out ck
    have hsA : Sz A := fun x hx => HSZ.out x (List.mem_append_left _ hx)
    have hsC : Sz C := fun x hx => HSZ.out x (List.mem_append_right _ (List.mem_cons_of_mem _ hx))
    have HF := Lib.hid f2
    have HNW := Lib.hid new2
    have HES := Lib.hid hes
    have HHD := Lib.hid hhd
    have HCL := Lib.hid (show c'.ps.length = m by rw [cp]; exact em)
    by_cases h9 : m < 4
    · obtain rfl : m = 3 := by omega
      have HHV := Lib.hid (refill_any B d w2 g _ G2 A C c' nod2 HCL.out hsA hsC (by have := HA.out; have := HB.out; omega) (by have := HA.out; have := HB.out; omega))
      rw [HA.out] at HHV
      clear f2 nod2 new2 ck cg cp ce l1 l2 HX em hes hhd hsA hsC
      go_wp2_with (go_at_call 97; refine HHV.out.mono ?_; rintro e w3 ⟨v3, G3, kt, rfl, hx⟩; have HX3 := Lib.hid hx; clear hx)
      obtain ⟨nod3, k1, k2, k3, k4, k5, f3, new3⟩ := HX3.out
      rw [HB.out] at k4 k5
      rw [← HP.out]
      refine .inr ⟨by rw [HM.out]; exact HT.out, rfl, Fo g v3 G3, kt.map Kd.pv, HF.out.trans f3 HNW.out, HNW.out.trans new3 HF.out.size, ?_, ?_, ?_⟩
      · have := nod3.sub (lo := lo) k1 (k3.trans HHD.out)
        rw [k2, HES.out] at this
        exact this
      · rw [HLN.out, List.length_map, HA.out, HB.out]; omega
      · rw [HLN.out, List.length_map, HA.out, HB.out]; omega
    · have h9' : decide ((m : Int) < 4) = false := by simp; omega
      have h9n : 4 ≤ m := by omega
      have HND2 := Lib.hid nod2
      have HSA := Lib.hid hsA
      have HSC := Lib.hid hsC
      clear f2 nod2 new2 ck cg cp ce HX em hes hhd hsA hsC
      go_wp2_with fail
      rw [← HP.out]
      refine .inr ⟨by rw [HM.out]; exact HT.out, rfl, _, (A ++ c' :: C).map Kd.pv, HF.out, HNW.out, ?_, ?_, ?_⟩
      · have := HND2.out.sub (lo := lo) (fun x hx => by
          rcases List.mem_append.1 hx with hx | hx
          · exact HSA.out x hx
          · rcases List.mem_cons.1 hx with rfl | hx
            · rw [HCL.out]; omega
            · exact HSC.out x hx) HHD.out
        rw [HES.out] at this
        exact this
      · simp only [List.length_map, List.length_append, List.length_cons]; omega
      · simp only [List.length_map, List.length_append, List.length_cons]; omega

theorem drop_d (B : Nat) (s : ByteArray) : ∀ (d : Nat) (w : World) (F : Bl) (g : Nat) (lo : List Nat) (ps : List Pv) (es : List Ent), Sub B d w F g lo ps es → ps.length ≤ 8 → (d = 0 ∨ 2 ≤ ps.length) → ¬ klt (sl s) lo →
    Calls Tryd.prog 66 #[.pointer (some ⟨g, 0, none⟩), .string s] w (DropPost B d w F g lo ps es (sl s))
  | 0, w, F, g, lo, ps, es, h, hn, _, hlo => drop_leaf B w F g lo ps es h (by omega) s
  | d + 1, w, F, g, lo, ps, es, h, hn, h2, hlo => drop_node B d s (fun w F g lo ps es h hn h2 hlo => drop_d B s d w F g lo ps es h hn (.inr h2) hlo) w F g lo ps es h hn (by rcases h2 with h2 | h2; cases h2; exact h2) hlo

end Go.Proofs.YtmmchhlfbhbigaaDoor

namespace Go.Proofs.YtmmchhlfbhbigaaDoor
set_option maxRecDepth 100000
open Go.RowKit Go.Joins Go.ChangeShapes Go.WideShapes
set_option linter.unusedVariables false
set_option linter.unusedSimpArgs false

/-- an entry as a part -/
def PtV (s : ByteArray) (n : Int) : Value := .agg #[.string s, .int .i64 n, .pointer none]

set_option maxHeartbeats 4000000 in
set_option maxRecDepth 100000 in
theorem first_any (B d : Nat) (w : World) (F : Bl) (g : Nat) (lo : List Nat) (ps : List Pv) (es : List Ent) (h : Sub B d w F g lo ps es) (hn : ps.length ≤ 8) (x : Ent) (hx : es.head? = some x) :
    Calls Tryd.prog 99 #[.pointer (some ⟨g, 0, none⟩)] w fun e w' => ∃ s, e = .returned (PtV s x.2) ∧ sl s = x.1 ∧ Below w.heap.size w w' := by
  generalize hP : (fun (e : Ending) (w' : World) => ∃ s, e = .returned (PtV s x.2) ∧ sl s = x.1 ∧ Below w.heap.size w w') = P
  have HP := Lib.hid hP
  obtain ⟨W1, hW1⟩ : ∃ W1, w.alloc (.cells #[.string ⟨#[]⟩, .int .i64 0, .pointer none] 131) = W1 := ⟨_, rfl⟩
  have hb : Below w.heap.size w W1 := by rw [← hW1]; exact (Below.refl _ _).alloc (Nat.le_refl _) _
  have hnew : W1.heap[w.heap.size]? = some (.cells #[.string ⟨#[]⟩, .int .i64 0, .pointer none] 131 (0, 0)) := by rw [← hW1]; exact heap_alloc_new w _
  have HS := Lib.hid (h.below hb)
  have HX := Lib.hid hx
  have HB := Lib.hid hb
  have c0 : W1.cell? ⟨w.heap.size, 0, none⟩ = some (.string ⟨#[]⟩) := by rw [cell_of_block hnew]; rfl
  have c1 : W1.cell? ⟨w.heap.size, 1, none⟩ = some (.int .i64 0) := by rw [cell_of_block hnew]; rfl
  have c2 : W1.cell? ⟨w.heap.size, 2, none⟩ = some (.pointer none) := by rw [cell_of_block hnew]; rfl
  have f0 := unfrozen_of_block hnew 0
  have f1 := unfrozen_of_block hnew 1
  have f2 := unfrozen_of_block hnew 2
  obtain ⟨z, hz⟩ : ∃ z, w.heap.size = z := ⟨_, rfl⟩
  rw [hz] at c0 c1 c2 f0 f1 f2
  have HZ := Lib.hid hz
  have HW := Lib.hid hW1
  clear hP h hx hb hnew hz hW1
  go_enter Tryd.func99, Tryd.ntmps99
  go_wp2_with fail
  rw [HW.out, HZ.out]
  go_loopg [0] d (fun k p wx => wx = W1 ∧ ∃ g' F' lo' ps' es', p = .pointer (some ⟨g', 0, none⟩) ∧ Hid (Sub B k W1 F' g' lo' ps' es' ∧ es'.head? = some x ∧ ps'.length ≤ 8))
  case atStart => exact ⟨rfl, g, F, lo, ps, es, rfl, HS.out, HX.out, hn⟩
  case round =>
    obtain ⟨rfl, g', F', lo', ps', es', rfl, HR⟩ := hrel
    obtain ⟨s1, s2, s3⟩ := HR.out
    cases gk with
    | zero =>
      have HLF := Lib.hid (isleaf_sub0 s1 (by omega))
      obtain ⟨v, G, ss⟩ := s1
      have hc := ss.con
      obtain ⟨p, hp⟩ : ∃ p, ps'[0]? = some p ∧ (sl p.1, p.2.1) = x := by
        rw [hc.2.2.1] at s2
        cases ps' with
        | nil => simp [ents] at s2
        | cons p r => exact ⟨p, rfl, by simpa [ents] using s2⟩
      obtain ⟨hp, hpx⟩ := hp
      have hpn := hc.2.1 p (List.mem_of_getElem? hp)
      obtain ⟨gb, cap, rfl, k1, k2, d0, d1, d2, -⟩ := ss.nd.own.at hp
      obtain ⟨y0, -⟩ := ss.nd.cell
      obtain ⟨pa, pb, pc⟩ := p
      dsimp only at hpn hpx d0 d1 d2
      subst hpn
      obtain ⟨m, em⟩ : ∃ m, ps'.length = m + 1 := ⟨ps'.length - 1, by have := (List.getElem?_eq_some_iff.1 hp).1; omega⟩
      rw [em] at y0 k1
      simp only [kp, Option.map_none, Nat.zero_mul, Nat.zero_add] at d0 d1 d2
      have HPX := Lib.hid hpx
      clear ss hc hp hpx HR s2 s3 em
      go_wp2_with (go_at_call 67; refine HLF.out.mono ?_; rintro e w1 ⟨rfl, rfl⟩)
      refine bodyPost_ret (v := PtV pa pb) (by simp [results, Tryd.results99, go_sem, PtV, c0, c1, c2, f0, f1, f2]) rfl ?_
      rw [← HP.out]
      have hh := HPX.out
      subst hh
      refine ⟨pa, rfl, rfl, ((HB.out.setCell ?_ _).setCell ?_ _).setCell ?_ _⟩ <;> (show w.heap.size ≤ z; exact Nat.le_of_eq HZ.out)
    | succ k =>
      obtain ⟨v, G, ks, nod, hsz, rfl, rfl, hl, -⟩ := s1.nod
      cases ks with
      | nil => simp at hl
      | cons c r =>
        have HLF := Lib.hid (isleaf_nod nod (by simp) (by simp at s3; simp; omega))
        obtain ⟨gb, cap, rfl, k1, k2, -, -, d2, -⟩ := nod.nd.own.at (i := 0) (p := c.pv) rfl
        obtain ⟨y0, -⟩ := nod.nd.cell
        have hsub := nod.kids.sub c (List.mem_cons_self ..)
        have hcs := hsz c (List.mem_cons_self ..)
        have hhd : c.es.head? = some x := by
          obtain ⟨vv, GG, ss⟩ := hsub
          have hne := ss.con.ne (by intro e; rw [e] at hcs; simp at hcs)
          rw [List.flatMap_cons] at s2
          cases hce : c.es with
          | nil => exact absurd hce hne
          | cons e t => rw [hce] at s2; simpa using s2
        obtain ⟨m, em⟩ : ∃ m, ((c :: r).map Kd.pv).length = m + 1 := ⟨r.length, by simp⟩
        rw [em] at y0 k1
        simp only [Kd.pv, kp, Option.map_some, Nat.zero_mul, Nat.zero_add] at d2
        have HR2 := Lib.hid (And.intro hsub (And.intro hhd hcs.2))
        clear nod hsz hl hsub hcs hhd em HR s1 s2 s3
        go_wp2_with (go_at_call 67; refine HLF.out.mono ?_; rintro e w1 ⟨rfl, rfl⟩)
        go_roundg k
        case measure => omega
        case rel => exact ⟨rfl, c.g, c.F, c.k, c.ps, c.es, rfl, HR2.out⟩

end Go.Proofs.YtmmchhlfbhbigaaDoor

namespace Go.Proofs.YtmmchhlfbhbigaaDoor
set_option maxRecDepth 100000
open Go.RowKit Go.Joins Go.ChangeShapes Go.WideShapes
set_option linter.unusedVariables false
set_option linter.unusedSimpArgs false

def FromPost (w : World) (es : List Ent) (k : List Nat) (e : Ending) (w' : World) : Prop :=
  Below w.heap.size w w' ∧ ((∃ x s, es[(ePl es k).1]? = some x ∧ sl s = x.1 ∧ e = .returned (.tuple #[PtV s x.2, .bool true])) ∨ (es[(ePl es k).1]? = none ∧ e = .returned (.tuple #[PtV ⟨#[]⟩ 0, .bool false])))
/-- an empty part that has just been made -/
theorem zbox (w : World) : ∃ W1, w.alloc (.cells #[.string ⟨#[]⟩, .int .i64 0, .pointer none] 131) = W1 ∧ Below w.heap.size w W1 ∧ w.heap.size < W1.heap.size ∧ ∀ wx, Below W1.heap.size W1 wx →
    wx.cell? ⟨w.heap.size, 0, none⟩ = some (.string ⟨#[]⟩) ∧ wx.cell? ⟨w.heap.size, 1, none⟩ = some (.int .i64 0) ∧ wx.cell? ⟨w.heap.size, 2, none⟩ = some (.pointer none) ∧ wx.frozen? ⟨w.heap.size, 0, none⟩ = false ∧ wx.frozen? ⟨w.heap.size, 1, none⟩ = false ∧ wx.frozen? ⟨w.heap.size, 2, none⟩ = false := by
  refine ⟨_, rfl, (Below.refl _ _).alloc (Nat.le_refl _) _, by simp, fun wx hb => ?_⟩
  have hnew : wx.heap[w.heap.size]? = some (.cells #[.string ⟨#[]⟩, .int .i64 0, .pointer none] 131 (0, 0)) := by
    rw [hb.block _ (by simp)]; exact heap_alloc_new w _
  refine ⟨?_, ?_, ?_, unfrozen_of_block hnew 0, unfrozen_of_block hnew 1, unfrozen_of_block hnew 2⟩ <;> rw [cell_of_block hnew] <;> rfl

set_option maxHeartbeats 4000000 in
set_option maxRecDepth 100000 in
theorem from_leaf (B : Nat) (w : World) (F : Bl) (g : Nat) (lo : List Nat) (ps : List Pv) (es : List Ent) (h : Sub B 0 w F g lo ps es) (hn : ps.length ≤ 2147483648) (s : ByteArray) :
    Calls Tryd.prog 69 #[.pointer (some ⟨g, 0, none⟩), .string s] w (FromPost w es (sl s)) := by
  generalize hP : FromPost w es (sl s) = P
  have HP := Lib.hid hP
  obtain ⟨W1, hW1, hb, hz1, hzc⟩ := zbox w
  have h1 := h.below hb
  have HLF := Lib.hid (isleaf_sub0 h1 (by omega))
  obtain ⟨v, G, ss⟩ := h1
  obtain ⟨hG, hnone, hes, hsrt, hall⟩ := ss.con
  have HFD := Lib.hid (find_any B W1 g v ps ss.nd (by rw [← hes]; exact hsrt) (by omega) s)
  rw [← hes] at HFD
  have hle := (ePl_le es (sl s)).1
  have hl : es.length = ps.length := by rw [hes]; unfold ents; rw [List.length_map]
  obtain ⟨T, hT⟩ : ∃ T, ePl es (sl s) = T := ⟨_, rfl⟩
  rw [hT] at HFD hle
  obtain ⟨i, t⟩ := T
  dsimp only at HFD hle
  have HT := Lib.hid hT
  have HES := Lib.hid hes
  have HN := Lib.hid ss.nd
  have HNO := Lib.hid hnone
  obtain ⟨a, cap, rfl, -⟩ := ss.nd.form
  obtain ⟨z, hz⟩ : ∃ z, w.heap.size = z := ⟨_, rfl⟩
  rw [hz] at hzc hz1
  have HZ := Lib.hid hz
  have HZC := Lib.hid hzc
  have HB := Lib.hid hb
  have HW := Lib.hid hW1
  obtain ⟨n, en⟩ : ∃ n, ps.length = n := ⟨_, rfl⟩
  have EN := Lib.hid en
  rw [hl, en] at hle
  by_cases c : i = n
  · subst c
    have HOUT := Lib.hid (show ∀ wx, Below z w wx → P (.returned (.tuple #[PtV ⟨#[]⟩ 0, .bool false])) wx by
      intro wx hbx
      rw [← HP.out]
      exact ⟨by rw [HZ.out]; exact hbx, .inr ⟨by rw [HT.out]; exact List.getElem?_eq_none (by omega), rfl⟩⟩)
    have HC := Lib.hid (show ∀ wx, Below W1.heap.size W1 wx → wx.cell? ⟨g, 0, none⟩ = some (.slice a i cap) from fun wx hb => by have := (HN.out.below hb).cell.1; rw [EN.out] at this; exact this)
    clear hP hb hzc ss hG hnone hes hsrt hall hl hT hz hW1 en h hle
    go_enter Tryd.func69, Tryd.ntmps69
    go_upto_region 1 with fail
    rw [HW.out, HZ.out]
    go_wp2_with (first | (go_at_call 67; refine HLF.out.mono ?_; rintro e w1 ⟨rfl, rfl⟩) | (go_at_call 94; refine HFD.out.mono ?_; rintro e w2 ⟨rfl, b2⟩; have z0 := HC.out _ b2; obtain ⟨c0, c1, c2, f0, f1, f2⟩ := HZC.out _ b2; have HB2 := Lib.hid b2; clear b2))
    refine bodyPost_ret (v := .tuple #[PtV ⟨#[]⟩ 0, .bool false]) (by simp [results, Tryd.results69, go_sem, PtV, c0, c1, c2, f0, f1, f2]) rfl (HOUT.out _ ?_)
    refine ((Below.setCell ?_ (Nat.le_refl z) _).setCell (Nat.le_refl z) _).setCell (Nat.le_refl z) _
    have hq := HZ.out
    subst hq
    exact HB.out.trans (HB2.out.mono (by omega))
  · have hi : i < n := by omega
    have hp : ps[i]? = some (ps[i]'(by rw [EN.out]; exact hi)) := List.getElem?_eq_getElem _
    generalize ps[i]'(by rw [EN.out]; exact hi) = p at *
    obtain ⟨pa, pb, pc⟩ := p
    have hpn : pc = none := hnone _ (List.mem_of_getElem? hp)
    subst hpn
    have HOUT := Lib.hid (show ∀ wx, Below z w wx → P (.returned (.tuple #[PtV pa pb, .bool true])) wx by
      intro wx hbx
      rw [← HP.out]
      refine ⟨by rw [HZ.out]; exact hbx, .inl ⟨(sl pa, pb), pa, ?_, rfl, rfl⟩⟩
      rw [HT.out, HES.out]
      unfold ents
      rw [List.getElem?_map, hp]; rfl)
    obtain ⟨gb, cap', e5, -⟩ := HN.out.own.at hp
    injection e5 with e5 e6 e7
    subst e5
    clear e6 e7
    have HC := Lib.hid (show ∀ wx, Below W1.heap.size W1 wx → wx.cell? ⟨g, 0, none⟩ = some (.slice (some ⟨gb, 0, none⟩) n cap) ∧ wx.cell? ⟨gb, i * 3, none⟩ = some (.string pa) ∧ wx.cell? ⟨gb, i * 3 + 1, none⟩ = some (.int .i64 pb) ∧ wx.cell? ⟨gb, i * 3 + 2, none⟩ = some (.pointer none) from fun wx hb => by
      have h1 := (HN.out.below hb).cell.1
      rw [EN.out] at h1
      obtain ⟨gb', cap'', e5, -, -, d0, d1, d2, -⟩ := (HN.out.below hb).own.at hp
      injection e5 with e5 e6 e7
      injection e5 with e5
      injection e5 with e5
      subst e5
      exact ⟨h1, d0, d1, d2⟩)
    have hi1 : (i : Int) < (n : Int) := by omega
    have hi2 : ((i : Int) == (n : Int)) = false := by simp; omega
    have hi3 : (i == n) = false := by simp; omega
    clear hP hb hzc ss hG hnone hes hsrt hall hl hT hz hW1 en h hle hp
    go_enter Tryd.func69, Tryd.ntmps69
    go_upto_region 1 with fail
    rw [HW.out, HZ.out]
    go_wp2_with (first | (go_at_call 67; refine HLF.out.mono ?_; rintro e w1 ⟨rfl, rfl⟩) | (go_at_call 94; refine HFD.out.mono ?_; rintro e w2 ⟨rfl, b2⟩; obtain ⟨z0, z3, z4, z5⟩ := HC.out _ b2; obtain ⟨c0, c1, c2, f0, f1, f2⟩ := HZC.out _ b2; have HB2 := Lib.hid b2; clear b2))
    refine bodyPost_ret (v := .tuple #[PtV pa pb, .bool true]) (by simp [results, Tryd.results69, go_sem, PtV, c0, c1, c2, f0, f1, f2]) rfl (HOUT.out _ ?_)
    refine ((Below.setCell ?_ (Nat.le_refl z) _).setCell (Nat.le_refl z) _).setCell (Nat.le_refl z) _
    have hq := HZ.out
    subst hq
    exact HB.out.trans (HB2.out.mono (by omega))

/-- the place of a key that is behind all of a list's beginning -/
theorem ePl_all {l : List Ent} {k : List Nat} (h : l[(ePl l k).1]? = none) : (ePl l k).1 = l.length ∧ ∀ e ∈ l, klt e.1 k := by
  have hle := (ePl_le l k).1
  have hge : l.length ≤ (ePl l k).1 := by simpa using h
  have e : (ePl l k).1 = l.length := by omega
  have := ePl_take (l := l) (k := k)
  rw [e, List.take_length] at this
  exact ⟨e, this⟩

set_option maxHeartbeats 4000000 in
set_option maxRecDepth 100000 in
theorem from_node (B d : Nat) (s : ByteArray) (IH : ∀ (w : World) (F : Bl) (g : Nat) (lo : List Nat) (ps : List Pv) (es : List Ent), Sub B d w F g lo ps es → ps.length ≤ 8 → ¬ klt (sl s) lo →
      Calls Tryd.prog 69 #[.pointer (some ⟨g, 0, none⟩), .string s] w (FromPost w es (sl s)))
    (w : World) (F : Bl) (g : Nat) (lo : List Nat) (ps : List Pv) (es : List Ent) (h : Sub B (d + 1) w F g lo ps es) (hn : ps.length ≤ 8) (hlo : ¬ klt (sl s) lo) :
    Calls Tryd.prog 69 #[.pointer (some ⟨g, 0, none⟩), .string s] w (FromPost w es (sl s)) := by
  generalize hP : FromPost w es (sl s) = P
  have HP := Lib.hid hP
  obtain ⟨W1, hW1, hb, hz1, hzc⟩ := zbox w
  have h1 := h.below hb
  obtain ⟨v, G, ks, nod, hsz, rfl, rfl, hl, -⟩ := h1.nod
  obtain ⟨A, c, C, rfl, hch, hkc, hkC, hA, hC⟩ := nod.at hl hlo
  have hmid := ePl_mid (m := c.es) hA hC
  rw [← flat_mid] at hmid
  have hcm : c ∈ A ++ c :: C := List.mem_append_right _ (List.mem_cons_self ..)
  have hlen : A.length + 1 + C.length ≤ 8 := by simp at hn; omega
  have HLF := Lib.hid (isleaf_nod nod (by simp) (by simp; omega))
  have HCH := Lib.hid (child_any B W1 g v _ nod.nd nod.kids.srt (by simp; omega) s)
  rw [hch] at HCH
  have HIH := Lib.hid (fun w1 (hb : Below W1.heap.size W1 w1) => IH w1 c.F c.g c.k c.ps c.es ((nod.kids.sub c hcm).below hb) (hsz c hcm).2 hkc)
  have hpv : ((A ++ c :: C).map Kd.pv)[A.length]? = some c.pv := by rw [List.getElem?_map, List.getElem?_append_right (Nat.le_refl _), Nat.sub_self]; rfl
  have ln : ((A ++ c :: C).map Kd.pv).length = A.length + 1 + C.length := by simp; omega
  obtain ⟨gb, cap, rfl, k1, -⟩ := nod.nd.own.at hpv
  have HM := Lib.hid hmid
  have HND := Lib.hid nod
  have HSZ := Lib.hid hsz
  obtain ⟨a, ea⟩ : ∃ n, A.length = n := ⟨_, rfl⟩
  obtain ⟨b, eb⟩ : ∃ n, C.length = n := ⟨_, rfl⟩
  have HA := Lib.hid ea
  have HB9 := Lib.hid eb
  have HAT := Lib.hid (show ∀ wx, Below W1.heap.size W1 wx → wx.cell? ⟨g, 0, none⟩ = some (.slice (some ⟨gb, 0, none⟩) (a + 1 + b) cap) ∧ wx.cell? ⟨gb, a * 3 + 2, none⟩ = some (.pointer (some ⟨c.g, 0, none⟩)) by
    intro wx hbx
    have c0 := (nod.nd.below hbx).cell.1
    rw [ln, ea, eb] at c0
    obtain ⟨gb', cap', e, -, -, -, -, d1, -⟩ := (nod.nd.below hbx).own.at hpv
    injection e with e
    injection e with e
    injection e with e
    subst e
    rw [ea] at d1
    exact ⟨c0, d1⟩)
  obtain ⟨z, hz⟩ : ∃ z, w.heap.size = z := ⟨_, rfl⟩
  rw [hz] at hzc hz1
  have HZ := Lib.hid hz
  have HZC := Lib.hid hzc
  have HB := Lib.hid hb
  have HW := Lib.hid hW1
  have lg : g < W1.heap.size := nod.nd.lt
  have lgb : gb < W1.heap.size := (nod.nd.own.lt gb rfl).2
  have hk0 : (a : Int) < (a : Int) + 1 + (b : Int) := by omega
  have hw1 : IntKind.i64.wrap ((a : Int) + 1) = (a : Int) + 1 := IntWalk.i64_in _ (by rw [ea] at hlen; omega)
  rw [ea] at HCH hlen
  rw [eb] at hlen
  -- what comes behind
  have HOK := Lib.hid (show ∀ wx x u, c.es[(ePl c.es (sl s)).1]? = some x → sl u = x.1 → Below z w wx → P (.returned (.tuple #[PtV u x.2, .bool true])) wx by
    intro wx x u hx hu hbx
    rw [← HP.out]
    refine ⟨by rw [HZ.out]; exact hbx, .inl ⟨x, u, ?_, hu, rfl⟩⟩
    rw [HM.out, flat_mid]
    dsimp only
    have hlt := (List.getElem?_eq_some_iff.1 hx).1
    rw [List.append_assoc, List.getElem?_append_right (by omega), Nat.add_sub_cancel_left, List.getElem?_append_left hlt]
    exact hx)
  have HNO := Lib.hid (show c.es[(ePl c.es (sl s)).1]? = none → ∀ j, ((A ++ c :: C).flatMap Kd.es)[(ePl ((A ++ c :: C).flatMap Kd.es) (sl s)).1 + j]? = (C.flatMap Kd.es)[j]? by
    intro hx j
    have := (ePl_all hx).1
    rw [HM.out, flat_mid]
    dsimp only
    rw [this, List.getElem?_append_right (by rw [List.length_append]; omega)]
    congr 1
    rw [List.length_append]; omega)
  clear hP hmid nod hsz hl hkC ln ea eb hpv h hch hA hC hn hcm k1 hzc hb hW1 hz
  have fin : ∀ wx (v' : Value), Below W1.heap.size W1 wx → Below z w wx := by
    intro wx v' hbx
    have hq := HZ.out
    subst hq
    exact HB.out.trans (hbx.mono (by omega))
  have FIN := Lib.hid fin
  clear fin
  have HI2 := Lib.hid (show ∀ w1, Below W1.heap.size W1 w1 → Calls Tryd.prog 69 #[.pointer (some ⟨c.g, 0, none⟩), .string s] w1 fun e w3 => Below w1.heap.size w1 w3 ∧ ∃ (u : ByteArray) (n : Int) (t : Bool), e = .returned (.tuple #[.agg #[.string u, .int .i64 n, .pointer none], .bool t]) ∧ ((t = true ∧ ∃ x, c.es[(ePl c.es (sl s)).1]? = some x ∧ sl u = x.1 ∧ n = x.2) ∨ (t = false ∧ c.es[(ePl c.es (sl s)).1]? = none)) by
    intro w1 hb1
    refine (HIH.out w1 hb1).mono ?_
    rintro e w3 ⟨b3, hx⟩
    refine ⟨b3, ?_⟩
    rcases hx with ⟨x, u, q1, q2, rfl⟩ | ⟨q1, rfl⟩
    · exact ⟨u, x.2, true, rfl, .inl ⟨rfl, x, q1, q2, rfl⟩⟩
    · exact ⟨_, _, false, rfl, .inr ⟨rfl, q1⟩⟩)
  go_enter Tryd.func69, Tryd.ntmps69
  go_upto_region 1 with fail
  rw [HW.out, HZ.out]
  go_upto_region 8 with (first | (go_at_call 67; refine HLF.out.mono ?_; rintro e w1 ⟨rfl, rfl⟩) | (go_at_call 96; refine HCH.out.mono ?_; rintro e w2 ⟨rfl, b2⟩; obtain ⟨z0, z3⟩ := HAT.out _ b2; have HB2 := Lib.hid b2; clear b2) | (go_at_call 69; refine (HI2.out _ HB2.out).mono ?_; rintro e w3 ⟨b3, u, n, t, rfl, hx2⟩; have HX := Lib.hid hx2; have b4 := stepB HB2.out b3; obtain ⟨z0, z3⟩ := HAT.out _ b4; obtain ⟨c0, c1, c2, f0, f1, f2⟩ := HZC.out _ b4; have HB4 := Lib.hid b4; have hs4 := b4.size; clear hx2 b3 b4))
  have lg3 : g < w3.heap.size := by omega
  have lgb3 : gb < w3.heap.size := by omega
  have lz3 : z < w3.heap.size := by omega
  rcases HX.out with ⟨rfl, x, q1, q2, rfl⟩ | ⟨rfl, q1⟩
  · have HQ := Lib.hid (And.intro q1 q2)
    clear q1 q2 HX
    go_wp2_with fail
    refine bodyPost_ret (v := .tuple #[PtV u x.2, .bool true]) (by simp [results, Tryd.results69, go_sem, PtV, c0, c1, c2, f0, f1, f2, lz3]) rfl (HOK.out _ x u HQ.out.1 HQ.out.2 ?_)
    (refine (((Below.setCell ?_ (Nat.le_refl z) _).setCell (Nat.le_refl z) _).setCell (Nat.le_refl z) _).alloc (by simp [World.setCell]; omega) _; exact FIN.out _ (.int .i64 0) HB4.out)
  · have HQ := Lib.hid q1
    clear q1 HX
    by_cases hb0 : b = 0
    · subst hb0
      go_wp2_with fail
      refine bodyPost_ret (v := .tuple #[PtV ⟨#[]⟩ 0, .bool false]) (by simp [results, Tryd.results69, go_sem, PtV, c0, c1, c2, f0, f1, f2, lz3]) rfl ?_
      rw [← HP.out]
      refine ⟨?_, .inr ⟨?_, rfl⟩⟩
      · rw [HZ.out]
        (refine (((Below.setCell ?_ (Nat.le_refl z) _).setCell (Nat.le_refl z) _).setCell (Nat.le_refl z) _).alloc (by simp [World.setCell]; omega) _; exact FIN.out _ (.int .i64 0) HB4.out)
      · have := HNO.out HQ.out 0
        rw [Nat.add_zero] at this
        rw [this, List.eq_nil_of_length_eq_zero HB9.out]
        rfl
    · obtain ⟨c', C', eC⟩ : ∃ c' C', C = c' :: C' := by
        cases C with
        | nil => exact absurd HB9.out.symm hb0
        | cons c' C' => exact ⟨c', C', rfl⟩
      have hm' : c' ∈ A ++ c :: C := List.mem_append_right _ (List.mem_cons_of_mem _ (by rw [eC]; exact List.mem_cons_self ..))
      have hsub := HND.out.kids.sub c' hm'
      have hcs := HSZ.out c' hm'
      obtain ⟨x, hx⟩ : ∃ x, c'.es.head? = some x := by
        obtain ⟨vv, GG, ss⟩ := hsub
        have hne := ss.con.ne (by intro e; rw [e] at hcs; simp at hcs)
        cases he : c'.es with
        | nil => exact absurd he hne
        | cons e t => exact ⟨e, rfl⟩
      have HFI := Lib.hid (fun wx (hbx : Below W1.heap.size W1 wx) => first_any B d wx c'.F c'.g c'.k c'.ps c'.es (hsub.below hbx) hcs.2 x hx)
      have HAT2 := Lib.hid (show ∀ wx, Below W1.heap.size W1 wx → wx.cell? ⟨gb, (a + 1) * 3 + 2, none⟩ = some (.pointer (some ⟨c'.g, 0, none⟩)) by
        intro wx hbx
        have hpv : ((A ++ c :: C).map Kd.pv)[a + 1]? = some c'.pv := by rw [eC, ← HA.out, List.getElem?_map, List.getElem?_append_right (by omega), show A.length + 1 - A.length = 1 by omega]; rfl
        obtain ⟨gb', cap', e, -, -, -, -, d1, -⟩ := (HND.out.nd.below hbx).own.at hpv
        injection e with e
        injection e with e
        injection e with e
        subst e
        exact d1)
      have HXX := Lib.hid (show ((A ++ c :: C).flatMap Kd.es)[(ePl ((A ++ c :: C).flatMap Kd.es) (sl s)).1]? = some x by
        have := HNO.out HQ.out 0
        rw [Nat.add_zero] at this
        rw [this, eC, List.flatMap_cons]
        cases he : c'.es with
        | nil => rw [he] at hx; cases hx
        | cons e t => rw [he] at hx; exact hx)
      have y3 := HAT2.out _ HB4.out
      have hk1 : (a : Int) + 1 < (a : Int) + 1 + (b : Int) := by omega
      have hk2 : ((a : Int) + 1 == (a : Int) + 1 + (b : Int)) = false := by simp; omega
      have hk3 : ((a : Int) + 1).toNat = a + 1 := by omega
      have hk4 : (0 : Int) ≤ (a : Int) + 1 := by omega
      have hk5 : ¬ ((a : Int) + 1 = (a : Int) + 1 + (b : Int)) := by omega
      clear hm' hsub hcs hx
      go_wp2_with (go_at_call 99; refine (HFI.out _ (HB4.out.alloc HB4.out.size _)).mono ?_; rintro e w5 ⟨u', rfl, hu', b5⟩; have HU := Lib.hid hu'; have b6 := stepB (HB4.out.alloc HB4.out.size _) b5; obtain ⟨c0, c1, c2, f0, f1, f2⟩ := HZC.out _ b6; have HB6 := Lib.hid b6; unfold PtV; clear hu' b5 b6)
      refine bodyPost_ret (v := .tuple #[PtV u' x.2, .bool true]) (by simp [results, Tryd.results69, go_sem, PtV, c0, c1, c2, f0, f1, f2]) rfl ?_
      rw [← HP.out]
      refine ⟨?_, .inl ⟨x, u', HXX.out, HU.out, rfl⟩⟩
      rw [HZ.out]
      (refine ((Below.setCell ?_ (Nat.le_refl z) _).setCell (Nat.le_refl z) _).setCell (Nat.le_refl z) _; exact FIN.out _ (.int .i64 0) HB6.out)

theorem from_d (B : Nat) (s : ByteArray) : ∀ (d : Nat) (w : World) (F : Bl) (g : Nat) (lo : List Nat) (ps : List Pv) (es : List Ent), Sub B d w F g lo ps es → ps.length ≤ 8 → ¬ klt (sl s) lo →
    Calls Tryd.prog 69 #[.pointer (some ⟨g, 0, none⟩), .string s] w (FromPost w es (sl s))
  | 0, w, F, g, lo, ps, es, h, hn, hlo => from_leaf B w F g lo ps es h (by omega) s
  | d + 1, w, F, g, lo, ps, es, h, hn, hlo => from_node B d s (from_d B s d) w F g lo ps es h hn hlo

end Go.Proofs.YtmmchhlfbhbigaaDoor

namespace Go.Proofs.YtmmchhlfbhbigaaDoor
set_option maxRecDepth 100000
open Go.RowKit Go.Joins Go.ChangeShapes Go.WideShapes
set_option linter.unusedVariables false

theorem KeyAt.str {w : World} {R : Bl} {u : Value} {k : List Nat} (h : KeyAt w R u k) : (convert 30 9 u).run Tryd.prog w = .ok (.string (strB k)) w := by
  obtain ⟨a, b, off, cap, rfl, h1, h2⟩ := h
  exact str_arg (h1.imp_right (fun h => h.1)) (fun e => by
    rcases h1 with h | h
    · exact h
    · rw [e] at h; exact absurd h.1 (by simp)) h2
theorem KeyAt.strN {w : World} {R : Bl} {u : Value} {k : List Nat} (h : KeyAt w R u k) (n : Nat) : (convert 30 9 u).run Tryd.prog (w.drewN n) = .ok (.string (strB k)) (w.drewN n) :=
  (h.step (Frm.of_below (F := fun _ => False) (show Below w.heap.size w (w.drewN n) from ⟨rfl, rfl, rfl, Nat.le_refl _, fun _ _ => rfl⟩)) (fun _ _ h => h)).str
theorem bytes_ne {s t : ByteArray} (h : s ≠ t) : (s.toList == t.toList) = false := beq_eq_false_iff_ne.2 (fun e => h (by
  rw [Go.ByteArray.toList_eq, Go.ByteArray.toList_eq] at e
  exact ByteArray.ext (Array.toList_inj.1 e)))
theorem KeyAt.lt {w : World} {R : Bl} {u : Value} {k : List Nat} (h : KeyAt w R u k) : ∀ x ∈ k, x < 256 := by
  obtain ⟨a, b, off, cap, rfl, h1, h2⟩ := h
  exact h2.lt

end Go.Proofs.YtmmchhlfbhbigaaDoor

namespace Go.Proofs.YtmmchhlfbhbigaaDoor
set_option maxRecDepth 100000
open Go.RowKit Go.Joins Go.ChangeShapes Go.WideShapes
set_option linter.unusedVariables false

theorem nklt_nil (k : List Nat) : ¬ klt k [] := by cases k <;> simp [klt, ordB]
/-- a tree: its root, how many entries it has -/
def TrX (B : Nat) (w : World) (F : Bl) (t : Nat) (es : List Ent) : Prop :=
  ∃ d Fr g ps, w.heap[t]? = some (.cells #[.pointer (some ⟨g, 0, none⟩), .int .i64 (es.length : Nat)] 126 (0, 0)) ∧ Sub B d w Fr g [] ps es ∧ ps.length ≤ 8 ∧ (d = 0 ∨ 2 ≤ ps.length) ∧ ¬ Fr t ∧ B ≤ t ∧ F = fun k => k = t ∨ Fr k
theorem TrX.step {B : Nat} {w w1 : World} {F F1 : Bl} {t : Nat} {es : List Ent} (h : TrX B w F t es) (hf : Frm F1 w w1) (hd : ∀ k, F k → ¬ F1 k) : TrX B w1 F t es := by
  obtain ⟨d, Fr, g, ps, h1, h2, h3, h4, h5, h6, rfl⟩ := h
  exact ⟨d, Fr, g, ps, (hf.heap (Array.getElem?_eq_some_iff.1 h1).1 (hd t (.inl rfl))).trans h1, h2.step hf (fun k hk => hd k (.inr hk)), h3, h4, h5, h6, rfl⟩
theorem TrX.below {B : Nat} {w w1 : World} {F : Bl} {t : Nat} {es : List Ent} (h : TrX B w F t es) (hb : Below w.heap.size w w1) : TrX B w1 F t es := h.step (Frm.of_below (F := fun _ => False) hb) (fun _ _ h => h)
theorem TrX.low {B : Nat} {w : World} {F : Bl} {t : Nat} {es : List Ent} (h : TrX B w F t es) : ∀ k, F k → B ≤ k ∧ k < w.heap.size := by
  obtain ⟨d, Fr, g, ps, h1, h2, h3, h4, h5, h6, rfl⟩ := h
  rintro k (rfl | hk)
  · exact ⟨h6, (Array.getElem?_eq_some_iff.1 h1).1⟩
  · exact h2.low k hk
theorem TrX.srt {B : Nat} {w : World} {F : Bl} {t : Nat} {es : List Ent} (h : TrX B w F t es) : Srt es := by
  obtain ⟨d, Fr, g, ps, h1, ⟨v, G, h2⟩, -⟩ := h
  exact h2.con.srt
theorem TrX.ft {B : Nat} {w : World} {F : Bl} {t : Nat} {es : List Ent} (h : TrX B w F t es) : F t := by
  obtain ⟨d, Fr, g, ps, h1, h2, h3, h4, h5, h6, rfl⟩ := h
  exact .inl rfl

set_option maxHeartbeats 1000000 in
theorem tnew_any (w : World) : Calls Tryd.prog 34 #[] w fun e w' => ∃ t F, e = .returned (.pointer (some ⟨t, 0, none⟩)) ∧ TrX w.heap.size w' F t [] ∧ Below w.heap.size w w' := by
  generalize hP : (fun (e : Ending) (w' : World) => ∃ t F, e = .returned (.pointer (some ⟨t, 0, none⟩)) ∧ TrX w.heap.size w' F t [] ∧ Below w.heap.size w w') = P
  have HP := Lib.hid hP
  clear hP
  go_enter Tryd.func34, Tryd.ntmps34
  go_wp2
  rw [← HP.out]
  have e1 : (w.alloc (.cells #[.slice none 0 0] 124)).heap.size = w.heap.size + 1 := by simp
  refine ⟨w.heap.size + 1, _, by first | rfl | simp, ⟨0, Fo w.heap.size (.slice none 0 0) (fun _ => False), w.heap.size, [], ?_, ⟨.slice none 0 0, fun _ => False, ⟨?_, OwP.nil _ _, Nat.le_refl _⟩, ⟨rfl, by simp, rfl, List.Pairwise.nil, by simp⟩, fun k h => h.elim, rfl⟩, by simp, .inl rfl, ?_, by omega, rfl⟩, ?_⟩
  · rw [← e1]; exact heap_alloc_new _ _
  · rw [heap_alloc_old _ _ (by simp)]; exact heap_alloc_new w _
  · rintro (h | h | h)
    · omega
    · simp [Value.ownBlock] at h
    · exact h
  · exact ((Below.refl _ _).alloc (Nat.le_refl _) _).alloc (by simp) _

theorem tree_put {w : World} {t : Nat} {a b x : Value} (h : w.heap[t]? = some (.cells #[a, b] 126 (0, 0))) : (w.setCell ⟨t, 0, none⟩ x).heap[t]? = some (.cells #[x, b] 126 (0, 0)) ∧ (w.setCell ⟨t, 1, none⟩ x).heap[t]? = some (.cells #[a, x] 126 (0, 0)) := by
  constructor
  · rw [setCell_eq_setRow w t 0 #[a, b] _ _ x h, setRow_heap w t _ _ _ _ h]; rfl
  · rw [setCell_eq_setRow w t 1 #[a, b] _ _ x h, setRow_heap w t _ _ _ _ h]; rfl

theorem sl_empty : sl ⟨#[]⟩ = [] := rfl
/-- the root was too great: a new one above it -/
theorem grown_root {B d : Nat} {w wc : World} {t g n m' : Nat} {Fr F' : Bl} {ps' : List Pv} {es : List Ent} {k : List Nat} {id : Int} {P : Ending → World → Prop}
    (hP : (fun (e : Ending) (w' : World) => e = .returned (.bool (!(ePl es k).2)) ∧ ∃ F', Frm (fun k => k = t ∨ Fr k) w w' ∧ New w (fun k => k = t ∨ Fr k) F' ∧ TrX B w' F' t (ePut es k id)) = P)
    (f1 : Frm Fr w wc) (n1 : New w Fr F') (s1 : Sub B d wc F' g [] ps' (ePut es k id)) (em : ps'.length = m') (hft : ¬ F' t) (h1c : wc.heap[t]? = some (.cells #[.pointer (some ⟨g, 0, none⟩), .int .i64 (n : Nat)] 126 (0, 0)))
    (hln : (ePut es k id).length = n + 1) (ht : (ePl es k).2 = false) (h6 : B ≤ t) (h5 : ¬ Fr t) (h9 : 9 ≤ m') (h9b : m' ≤ 9) (ltc : t < wc.heap.size) :
    Calls Tryd.prog 93 #[.pointer (some ⟨wc.heap.size + 1, 0, none⟩), .int .i64 0] ((((wc.setCell ⟨t, 1, none⟩ (.int .i64 ((n : Int) + 1))).setCell ⟨t, 0, none⟩ (.pointer (some ⟨wc.heap.size + 1, 0, none⟩))).alloc (.cells #[.string ⟨#[]⟩, .int .i64 0, .pointer (some ⟨g, 0, none⟩)] 131)).alloc (.cells #[.slice (some ⟨wc.heap.size, 0, none⟩) 1 1] 124))
      fun e w' => e = .returned (.tuple #[]) ∧ P (.returned (.bool true)) w' := by
  obtain ⟨w4, hw4⟩ : ∃ w4, (wc.setCell ⟨t, 1, none⟩ (.int .i64 ((n : Int) + 1))).setCell ⟨t, 0, none⟩ (.pointer (some ⟨wc.heap.size + 1, 0, none⟩)) = w4 := ⟨_, rfl⟩
  rw [hw4]
  have f4 : Frm (fun k => k = t) wc w4 := by rw [← hw4]; exact (Frm.set1 (F := fun k => k = t) wc rfl 1 _).setCell (.inl rfl) 0 _
  have h4 : w4.heap.size = wc.heap.size := by rw [← hw4]; simp [World.setCell]
  have ht4 : w4.heap[t]? = some (.cells #[.pointer (some ⟨wc.heap.size + 1, 0, none⟩), .int .i64 ((n : Int) + 1)] 126 (0, 0)) := by rw [← hw4]; exact (tree_put (tree_put h1c).2).1
  obtain ⟨gs, hgs⟩ : ∃ gs, wc.heap.size = gs := ⟨_, rfl⟩
  rw [hgs] at ht4 h4 ltc ⊢
  obtain ⟨w5, hw5⟩ : ∃ w5, (w4.alloc (.cells #[.string ⟨#[]⟩, .int .i64 0, .pointer (some ⟨g, 0, none⟩)] 131)).alloc (.cells #[.slice (some ⟨gs, 0, none⟩) 1 1] 124) = w5 := ⟨_, rfl⟩
  rw [hw5]
  have b5 : Below w4.heap.size w4 w5 := by rw [← hw5]; exact ((Below.refl _ _).alloc (Nat.le_refl _) _).alloc (by simp) _
  have s5 : w5.heap.size = gs + 2 := by rw [← hw5]; simp; omega
  have hn5 : w5.heap[gs + 1]? = some (.cells #[.slice (some ⟨gs, 0, none⟩) 1 1] 124 (0, 0)) := by
    have e : (w4.alloc (.cells #[.string ⟨#[]⟩, .int .i64 0, .pointer (some ⟨g, 0, none⟩)] 131)).heap.size = gs + 1 := by simp; omega
    rw [← hw5, ← e]; exact heap_alloc_new _ _
  have hp5 : w5.heap[gs]? = some (.cells #[.string ⟨#[]⟩, .int .i64 0, .pointer (some ⟨g, 0, none⟩)] 131 (0, 0)) := by
    rw [← hw5, heap_alloc_old _ _ (by simp; omega), ← h4]; exact heap_alloc_new _ _
  have hlow := s1.low
  rw [hgs] at hlow
  have f5 : Frm (fun k => k = t) wc w5 := f4.step b5
  have hB : B ≤ gs := by omega
  obtain ⟨kd, hkd⟩ : ∃ kd : Kd, kd = { key := ⟨#[]⟩, id := 0, g := g, F := F', ps := ps', es := ePut es k id } := ⟨_, rfl⟩
  have nod : Nod B d w5 (gs + 1) (.slice (some ⟨gs, 0, none⟩) 1 1) F' ([] ++ kd :: []) := by
    subst hkd
    refine ⟨⟨hn5, OwP.mk (cur := pcells [((⟨#[]⟩ : ByteArray), (0 : Int), some g)]) hB hp5 (by simp) (by unfold maxLen; omega) rfl rfl, by omega⟩, ⟨?_, by simp, ?_⟩, ?_⟩
    · intro c hc
      simp only [List.nil_append, List.mem_singleton] at hc
      subst hc
      exact s1.step f5 (fun k hk e => hft (by rw [← e]; exact hk))
    · funext k
      simp
    · intro k hk
      have := hlow k hk
      refine ⟨by omega, fun e => ?_, this.1, by omega⟩
      simp only [Value.ownBlock, Option.some.injEq] at e
      omega
  have hh := halve_any B d w5 (gs + 1) _ F' [] [] kd nod (by rw [hkd]; simp only; omega) (by rw [hkd]; simp only; omega) (by simp)
  refine hh.mono ?_
  rintro e w' ⟨v', G', c1, c2, rfl, nod', k1, k2, k3, k4, f6, new6⟩
  refine ⟨rfl, ?_⟩
  have hkl : kd.ps.length = m' := by rw [hkd]; exact em
  rw [hkl] at k2 k3
  rw [← hP]
  have notin : ∀ k, k = t → ¬ Fo (gs + 1) (.slice (some ⟨gs, 0, none⟩) 1 1) F' k := by
    rintro k rfl (e | e | e)
    · omega
    · simp only [Value.ownBlock, Option.some.injEq] at e; omega
    · exact hft e
  have sub := nod'.sub (lo := []) (by
    intro x hx
    simp only [List.nil_append, List.mem_cons, List.not_mem_nil, or_false] at hx
    rcases hx with rfl | rfl <;> omega) (by show some (sl c1.key) = some []; rw [k1, hkd]; rfl)
  have hes : ([] ++ c1 :: c2 :: []).flatMap Kd.es = ePut es k id := by
    have : c1.es ++ c2.es = ePut es k id := by rw [k4, hkd]
    simpa using this
  rw [hes] at sub
  have fw : Frm (fun k => k = t ∨ Fr k) w w' := by
    refine (((f1.mono (fun k hk => .inr hk)).trans (F1 := fun k => k = t) f5 (fun k hk => .inl (.inl hk))).trans f6 ?_)
    rintro k (e | e | e)
    · have := f1.size; exact .inr (by omega)
    · simp only [Value.ownBlock, Option.some.injEq] at e
      have := f1.size; exact .inr (by omega)
    · rcases n1 k e with q | q
      · exact .inl (.inr q)
      · exact .inr q
  refine ⟨by rw [ht]; rfl, _, fw, ?_, d + 1, Fo (gs + 1) v' G', gs + 1, _, ?_, sub, by simp, .inr (by simp), ?_, h6, rfl⟩
  · rintro k (rfl | hk)
    · exact .inl (.inl rfl)
    · rcases new6 k hk with (e | e | e) | q
      · have := f1.size; exact .inr (by omega)
      · simp only [Value.ownBlock, Option.some.injEq] at e
        have := f1.size; exact .inr (by omega)
      · rcases n1 k e with q | q
        · exact .inl (.inr q)
        · exact .inr q
      · have := f1.size; exact .inr (by omega)
  · rw [f6.heap (by omega) (notin t rfl), b5.block t (by omega), ht4, hln]
    simp
  · intro hk
    rcases new6 t hk with q | q
    · exact notin t rfl q
    · omega

set_option maxHeartbeats 4000000 in
set_option maxRecDepth 100000 in
theorem tput_any (B : Nat) (w : World) (F : Bl) (t : Nat) (es : List Ent) (h : TrX B w F t es) (hn : es.length ≤ 4294967296) (R : Bl) (u : Value) (k : List Nat) (hu : KeyAt w R u k) (id : Int) :
    Calls Tryd.prog 65 #[.pointer (some ⟨t, 0, none⟩), u, .int .i64 id] w fun e w' => e = .returned (.bool (!(ePl es k).2)) ∧ ∃ F', Frm F w w' ∧ New w F F' ∧ TrX B w' F' t (ePut es k id) := by
  generalize hP : (fun (e : Ending) (w' : World) => e = .returned (.bool (!(ePl es k).2)) ∧ ∃ F', Frm F w w' ∧ New w F F' ∧ TrX B w' F' t (ePut es k id)) = P
  have HP := Lib.hid hP
  have hks : sl (strB k) = k := sl_strB hu.choose_spec.choose_spec.choose_spec.choose_spec.2.2.lt
  have HST := Lib.hid (show ∀ n, (convert 30 9 u).run Tryd.prog (w.drewN n) = .ok (.string (strB k)) (w.drewN n) from hu.strN)
  have hst : (convert 30 9 u).run Tryd.prog w.drew = .ok (.string (strB k)) w.drew := hu.strN 1
  obtain ⟨d, Fr, g, ps, h1, h2, h3, h4, h5, h6, rfl⟩ := h
  have hnk := nklt_nil k
  have HPUT := Lib.hid (fun wx (hb : Below w.heap.size w wx) => put_d B (strB k) id d wx Fr g [] ps es (h2.below hb) h3 (by rw [hks]; exact hnk))
  rw [hks] at HPUT
  obtain ⟨n, en⟩ : ∃ n, es.length = n := ⟨_, rfl⟩
  have c0 : w.cell? ⟨t, 0, none⟩ = some (.pointer (some ⟨g, 0, none⟩)) := by rw [cell_of_block h1]; rfl
  have lt : t < w.heap.size := (Array.getElem?_eq_some_iff.1 h1).1
  rw [en] at h1 hn
  have H1 := Lib.hid h1
  have H2 := Lib.hid h2
  have H4 := Lib.hid h4
  have H5 := Lib.hid h5
  have HEN := Lib.hid en
  obtain ⟨a, m, cap, eu⟩ : ∃ a m cap, u = .slice a m cap := by obtain ⟨a, b, off, cap, e, -⟩ := hu; exact ⟨a, _, cap, e⟩
  subst eu
  cases ht : (ePl es k).2 with
  | true =>
    have HC := Lib.hid (show ∀ wx, Below w.heap.size w wx → Calls Tryd.prog 92 #[.pointer (some ⟨g, 0, none⟩), .string (strB k), .int .i64 id] wx fun e w2 => e = .returned (.bool false) ∧ Below wx.heap.size wx w2 by
      intro wx hb
      refine (HPUT.out wx hb).mono ?_
      rintro e w2 (⟨-, q1, q2⟩ | ⟨q1, -⟩)
      · exact ⟨q1, q2⟩
      · rw [ht] at q1; cases q1)
    have HFIN := Lib.hid (show ∀ w2, Below w.heap.size w w2 → P (.returned (.bool false)) w2 by
      intro w2 hb
      rw [← HP.out]
      refine ⟨by rw [ht]; rfl, _, Frm.of_below hb, New.refl _ _, ?_⟩
      have : ePut es k id = es := by unfold ePut; rw [ht]; rfl
      rw [this]
      exact TrX.below ⟨d, Fr, g, ps, by rw [HEN.out]; exact H1.out, H2.out, h3, H4.out, H5.out, h6, rfl⟩ hb)
    clear hP h1 h2 h4 h5 hu hks hnk en ht
    go_enter Tryd.func65, Tryd.ntmps65
    go_wp2_with fail
    go_region_with (go_at_call 92; refine (HC.out w.drew ((Below.refl _ _).drew)).mono ?_; rintro e w2 ⟨rfl, b2⟩; have HX := Lib.hid (HFIN.out _ (stepB ((Below.refl _ _).drew) b2)); clear b2)
    all_goals
      go_wp2_with fail
      exact HX.out
  | false =>
    have hlen : (ePut es k id).length = n + 1 := by
      have := (ePl_le es k).1
      unfold ePut
      rw [ht, if_neg (by simp)]
      simp; omega
    have HC := Lib.hid (show ∀ wx, Below w.heap.size w wx → Calls Tryd.prog 92 #[.pointer (some ⟨g, 0, none⟩), .string (strB k), .int .i64 id] wx fun e w2 => e = .returned (.bool true) ∧ ∃ F' ps', Frm Fr w w2 ∧ New w Fr F' ∧ Sub B d w2 F' g [] ps' (ePut es k id) ∧ ps.length ≤ ps'.length ∧ ps'.length ≤ ps.length + 1 by
      intro wx hb
      refine (HPUT.out wx hb).mono ?_
      rintro e w2 (⟨q1, -⟩ | ⟨-, rfl, F', ps', f1, n1, s1, l1, l2⟩)
      · rw [ht] at q1; cases q1
      · exact ⟨rfl, F', ps', (Frm.of_below hb).trans f1 (New.refl _ _), (fun k hk => by
          rcases n1 k hk with q | q
          · exact .inl q
          · exact .inr (Nat.le_trans hb.size q)), s1, l1, l2⟩)
    have HT := Lib.hid ht
    have HLN := Lib.hid hlen
    clear hP h1 h2 h4 h5 hu hks hnk en ht hlen
    go_enter Tryd.func65, Tryd.ntmps65
    go_upto_region 1 with fail
    go_cut [15] (fun q wx => q = .bool false ∧ ∃ F' ps', Frm Fr w wx ∧ New w Fr F' ∧ Sub B d wx F' g [] ps' (ePut es k id) ∧ ps.length ≤ ps'.length ∧ ps'.length ≤ ps.length + 1)
    case first =>
      go_region_with (go_at_call 92; refine (HC.out w.drew ((Below.refl _ _).drew)).mono ?_; rintro e w2 ⟨rfl, hx⟩; have HX := Lib.hid hx; clear hx)
      all_goals
        go_wp2_with fail
        go_meet
        exact ⟨rfl, HX.out⟩
    case rest =>
      obtain ⟨rfl, F', ps', f1, n1, s1, l1, l2⟩ := hcut
      have h1c : wc.heap[t]? = some (.cells #[.pointer (some ⟨g, 0, none⟩), .int .i64 (n : Nat)] 126 (0, 0)) := (f1.heap lt H5.out).trans H1.out
      have d0 : wc.cell? ⟨t, 0, none⟩ = some (.pointer (some ⟨g, 0, none⟩)) := by rw [cell_of_block h1c]; rfl
      have d1 : wc.cell? ⟨t, 1, none⟩ = some (.int .i64 (n : Nat)) := by rw [cell_of_block h1c]; rfl
      have e0 := unfrozen_of_block h1c 0
      have e1 := unfrozen_of_block h1c 1
      have ltc : t < wc.heap.size := Nat.lt_of_lt_of_le lt f1.size
      have hF't : ¬ F' t := fun hk => by
        rcases n1 t hk with q | q
        · exact H5.out q
        · omega
      have hgF : F' g := by obtain ⟨v, G, ss⟩ := s1; rw [ss.foot]; exact .inl rfl
      have hgt : ¬ t = g := fun e => hF't (by rw [e]; exact hgF)
      have lgc : g < wc.heap.size := (s1.low g hgF).2
      obtain ⟨a', cap', y0⟩ : ∃ a' cap', wc.cell? ⟨g, 0, none⟩ = some (.slice a' ps'.length cap') := by
        obtain ⟨v, G, ss⟩ := s1
        obtain ⟨a', cap', rfl, -⟩ := ss.nd.form
        exact ⟨a', cap', ss.nd.cell.1⟩
      obtain ⟨m', em⟩ : ∃ m', ps'.length = m' := ⟨_, rfl⟩
      rw [em] at y0 l1 l2
      have hw1 : IntKind.i64.wrap ((n : Int) + 1) = (n : Int) + 1 := IntWalk.i64_in _ (by omega)
      have F1 := Lib.hid f1
      have N1 := Lib.hid n1
      have S1 := Lib.hid s1
      have EM := Lib.hid em
      have FT := Lib.hid hF't
      have H1C := Lib.hid h1c
      clear f1 n1 s1 em hF't hgF h1c
      by_cases h9 : 8 < m'
      · have HH := Lib.hid (grown_root HP.out F1.out N1.out S1.out EM.out FT.out H1C.out HLN.out HT.out h6 H5.out (by omega) (by omega) ltc)
        go_wp2_with (go_at_call 93; refine HH.out.mono ?_; rintro e w6 ⟨rfl, hx⟩; have HX := Lib.hid hx; clear hx)
        exact HX.out
      · have h9' : decide ((8 : Int) < (m' : Int)) = false := by simp; omega
        go_wp2_with fail
        rw [← HP.out]
        have fs : Frm (fun k => k = t) wc (wc.setCell ⟨t, 1, none⟩ (.int .i64 ((n : Int) + 1))) := Frm.set1 (F := fun k => k = t) wc rfl 1 _
        refine ⟨by rw [HT.out]; rfl, fun k => k = t ∨ F' k, ?_, ?_, d, F', g, ps', ?_, S1.out.step fs (fun k hk e => FT.out (by rw [← e]; exact hk)), by rw [EM.out]; omega, ?_, FT.out, h6, rfl⟩
        · exact (F1.out.mono (fun k hk => .inr hk)).trans (F1 := fun k => k = t) fs (fun k hk => .inl (.inl hk))
        · rintro k (rfl | hk)
          · exact .inl (.inl rfl)
          · rcases N1.out k hk with q | q
            · exact .inl (.inr q)
            · exact .inr q
        · rw [HLN.out]
          exact (tree_put H1C.out).2
        · rcases H4.out with q | q
          · exact .inl q
          · exact .inr (by rw [EM.out]; omega)

end Go.Proofs.YtmmchhlfbhbigaaDoor

namespace Go.Proofs.YtmmchhlfbhbigaaDoor
set_option maxRecDepth 100000
open Go.RowKit Go.Joins Go.ChangeShapes Go.WideShapes
set_option linter.unusedVariables false
set_option linter.unusedSimpArgs false

/-- the key of a row's number -/
def kOf (id : Int) : List Nat := 3 :: be8 (id + 9223372036854775808).toNat
theorem kOf_len (id : Int) : (kOf id).length = 9 := rfl
theorem kOf_lt256 (id : Int) : ∀ x ∈ kOf id, x < 256 := by
  intro x hx
  rcases List.mem_cons.mp hx with rfl | hx
  · omega
  · exact be8_lt _ x hx
theorem kOf_keyB (id : Int) : keyB (kF [(2, id, Em)]) (nF [(2, id, Em)]) (sF [(2, id, Em)]) 1 = kOf id := rfl
theorem kOf_klt {a b : Int} (ha : InI a) (hb : InI b) : klt (kOf a) (kOf b) ↔ a < b := by
  unfold InI at ha hb
  have e : ∀ u, be8 u = be8 u ++ [] := fun u => (List.append_nil _).symm
  have h0 : ordB (kOf a) (kOf b) = ordB (be8 (a + 9223372036854775808).toNat) (be8 (b + 9223372036854775808).toNat) := by
    unfold kOf; rw [ordB_cons, if_neg (by omega), if_neg (by omega)]
  have h1 := ord_be8 (a + 9223372036854775808).toNat (b + 9223372036854775808).toNat (by omega) (by omega) [] []
  rw [List.append_nil, List.append_nil] at h1
  unfold klt
  rw [h0]
  constructor
  · intro h
    rcases Int.lt_or_le a b with g | g
    · exact g
    · exfalso
      rcases Int.lt_or_eq_of_le g with g | g
      · have := h1.2 (by omega); omega
      · subst g; rw [ob_self] at h; omega
  · intro h
    have := h1.1 (by omega)
    omega
theorem kOf_inj {a b : Int} (ha : InI a) (hb : InI b) (h : kOf a = kOf b) : a = b := by
  rcases Int.lt_trichotomy a b with g | g | g
  · have := (kOf_klt ha hb).mpr g; rw [h] at this; unfold klt at this; rw [ob_self] at this; omega
  · exact g
  · have := (kOf_klt hb ha).mpr g; rw [h] at this; unfold klt at this; rw [ob_self] at this; omega

theorem okey_any (id : Int) (hi : InI id) (w : World) :
    Calls Tryd.prog 38 #[.int .i64 id] w fun e w' => ∃ v, e = .returned v ∧ KeyAt w' (fun k => w.heap.size ≤ k) v (kOf id) ∧ Below w.heap.size w w' := by
  have hr : ∀ i, i < 1 → VCheck (kF [(2, id, Em)] i) (nF [(2, id, Em)] i) (sF [(2, id, Em)] i) = 0 ∧ InI (nF [(2, id, Em)] i) := by
    intro i hi'
    match i, hi' with
    | 0, _ => exact ⟨vck_num (k := 2) (n := id) (by decide) (by decide) rfl, hi⟩
  have EA := Lib.hid (fun (w' : World) (g : Nat) (h : IsV w' g 0 1 (kF [(2, id, Em)]) (nF [(2, id, Em)]) (sF [(2, id, Em)])) => enc_any (some ⟨g, 0, none⟩) g 0 1 1 (kF [(2, id, Em)]) (nF [(2, id, Em)]) (sF [(2, id, Em)]) (by omega) w' (.inr rfl) h hr)
  go_enter Tryd.func38, Tryd.ntmps38
  go_wp2_with fail
  refine (EA.out _ w.heap.size (isV_l w [(2, id, Em)] _ rfl)).mono ?_
  rintro x w1 ⟨v1, rfl, o1, b1⟩
  have B1 := Lib.hid (((Below.refl _ w).alloc (Nat.le_refl _) (.cells #[.int .i64 2, .int .i64 id, .string ⟨#[]⟩] 134)).trans (b1.mono (by simp)))
  have O1 := Lib.hid (o1 : OutB w1 _ v1 (kOf id))
  clear b1 o1
  have hK : KeyAt w1 (fun k => w.heap.size ≤ k) v1 (kOf id) := by
    rcases O1.out with ⟨rfl, hz⟩ | h
    · exact absurd hz (List.cons_ne_nil _ _)
    · obtain ⟨g, cap, rfl, hg, hn⟩ := h.isB (kOf_lt256 id)
      exact ⟨_, g, 0, cap, rfl, .inr ⟨rfl, by
        show w.heap.size ≤ g
        refine Nat.le_trans ?_ hn
        simp⟩, hg⟩
  go_wp2_with fail
  go_ret
  exact ⟨v1, rfl, hK, B1.out⟩

end Go.Proofs.YtmmchhlfbhbigaaDoor

namespace Go.Proofs.YtmmchhlfbhbigaaDoor
set_option maxRecDepth 100000
open Go.RowKit Go.Joins Go.ChangeShapes Go.WideShapes
set_option linter.unusedVariables false

set_option maxHeartbeats 4000000 in
set_option maxRecDepth 100000 in
theorem tdrop_any (B : Nat) (w : World) (F : Bl) (t : Nat) (es : List Ent) (h : TrX B w F t es) (hn : es.length ≤ 4294967296) (R : Bl) (u : Value) (k : List Nat) (hu : KeyAt w R u k) :
    Calls Tryd.prog 37 #[.pointer (some ⟨t, 0, none⟩), u] w fun e w' => e = .returned (.bool (ePl es k).2) ∧ ∃ F', Frm F w w' ∧ New w F F' ∧ TrX B w' F' t (eDel es k) := by
  generalize hP : (fun (e : Ending) (w' : World) => e = .returned (.bool (ePl es k).2) ∧ ∃ F', Frm F w w' ∧ New w F F' ∧ TrX B w' F' t (eDel es k)) = P
  have HP := Lib.hid hP
  have hks : sl (strB k) = k := sl_strB hu.choose_spec.choose_spec.choose_spec.choose_spec.2.2.lt
  have hst : (convert 30 9 u).run Tryd.prog w.drew = .ok (.string (strB k)) w.drew := hu.strN 1
  obtain ⟨d, Fr, g, ps, h1, h2, h3, h4, h5, h6, rfl⟩ := h
  have hnk := nklt_nil k
  have HPUT := Lib.hid (fun wx (hb : Below w.heap.size w wx) => drop_d B (strB k) d wx Fr g [] ps es (h2.below hb) h3 h4 (by rw [hks]; exact hnk))
  rw [hks] at HPUT
  obtain ⟨n, en⟩ : ∃ n, es.length = n := ⟨_, rfl⟩
  have c0 : w.cell? ⟨t, 0, none⟩ = some (.pointer (some ⟨g, 0, none⟩)) := by rw [cell_of_block h1]; rfl
  have lt : t < w.heap.size := (Array.getElem?_eq_some_iff.1 h1).1
  rw [en] at h1 hn
  have H1 := Lib.hid h1
  have H2 := Lib.hid h2
  have H4 := Lib.hid h4
  have H5 := Lib.hid h5
  have HEN := Lib.hid en
  obtain ⟨a, m, cap, eu⟩ : ∃ a m cap, u = .slice a m cap := by obtain ⟨a, b, off, cap, e, -⟩ := hu; exact ⟨a, _, cap, e⟩
  subst eu
  cases ht : (ePl es k).2 with
  | false =>
    have HC := Lib.hid (show ∀ wx, Below w.heap.size w wx → Calls Tryd.prog 66 #[.pointer (some ⟨g, 0, none⟩), .string (strB k)] wx fun e w2 => e = .returned (.bool false) ∧ Below wx.heap.size wx w2 by
      intro wx hb
      refine (HPUT.out wx hb).mono ?_
      rintro e w2 (⟨-, q1, q2⟩ | ⟨q1, -⟩)
      · exact ⟨q1, q2⟩
      · rw [ht] at q1; cases q1)
    have HFIN := Lib.hid (show ∀ w2, Below w.heap.size w w2 → P (.returned (.bool false)) w2 by
      intro w2 hb
      rw [← HP.out]
      refine ⟨by rw [ht], _, Frm.of_below hb, New.refl _ _, ?_⟩
      have : eDel es k = es := by unfold eDel; rw [ht]; rfl
      rw [this]
      exact TrX.below ⟨d, Fr, g, ps, by rw [HEN.out]; exact H1.out, H2.out, h3, H4.out, H5.out, h6, rfl⟩ hb)
    clear hP h1 h2 h4 h5 hu hks hnk en ht
    go_enter Tryd.func37, Tryd.ntmps37
    go_wp2_with fail
    go_region_with (go_at_call 66; refine (HC.out w.drew ((Below.refl _ _).drew)).mono ?_; rintro e w2 ⟨rfl, b2⟩; have HX := Lib.hid (HFIN.out _ (stepB ((Below.refl _ _).drew) b2)); clear b2)
    all_goals
      go_wp2_with fail
      exact HX.out
  | true =>
    have hlen : (eDel es k).length = n - 1 ∧ 1 ≤ n := by
      have := (ePl_le es k).2 ht
      unfold eDel
      rw [ht, if_pos rfl, List.length_append, List.length_take, List.length_drop]
      omega
    obtain ⟨hlen, hn1⟩ := hlen
    have HC := Lib.hid (show ∀ wx, Below w.heap.size w wx → Calls Tryd.prog 66 #[.pointer (some ⟨g, 0, none⟩), .string (strB k)] wx fun e w2 => e = .returned (.bool true) ∧ ∃ F' ps', Frm Fr w w2 ∧ New w Fr F' ∧ Sub B d w2 F' g [] ps' (eDel es k) ∧ ps'.length ≤ ps.length ∧ ps.length ≤ ps'.length + 1 by
      intro wx hb
      refine (HPUT.out wx hb).mono ?_
      rintro e w2 (⟨q1, -⟩ | ⟨-, rfl, F', ps', f1, n1, s1, l1, l2⟩)
      · rw [ht] at q1; cases q1
      · exact ⟨rfl, F', ps', (Frm.of_below hb).trans f1 (New.refl _ _), (fun k hk => by
          rcases n1 k hk with q | q
          · exact .inl q
          · exact .inr (Nat.le_trans hb.size q)), s1, l1, l2⟩)
    have HT := Lib.hid ht
    have HLN := Lib.hid hlen
    clear hP h1 h2 h4 h5 hu hks hnk en ht hlen
    go_enter Tryd.func37, Tryd.ntmps37
    go_upto_region 1 with fail
    go_cut [12] (fun q wx => q = .bool false ∧ ∃ F' ps', Frm Fr w wx ∧ New w Fr F' ∧ Sub B d wx F' g [] ps' (eDel es k) ∧ ps'.length ≤ ps.length ∧ ps.length ≤ ps'.length + 1)
    case first =>
      go_region_with (go_at_call 66; refine (HC.out w.drew ((Below.refl _ _).drew)).mono ?_; rintro e w2 ⟨rfl, hx⟩; have HX := Lib.hid hx; clear hx)
      all_goals
        go_wp2_with fail
        go_meet
        exact ⟨rfl, HX.out⟩
    case rest =>
      obtain ⟨rfl, F', ps', f1, n1, s1, l1, l2⟩ := hcut
      have h1c : wc.heap[t]? = some (.cells #[.pointer (some ⟨g, 0, none⟩), .int .i64 (n : Nat)] 126 (0, 0)) := (f1.heap lt H5.out).trans H1.out
      have d0 : wc.cell? ⟨t, 0, none⟩ = some (.pointer (some ⟨g, 0, none⟩)) := by rw [cell_of_block h1c]; rfl
      have d1 : wc.cell? ⟨t, 1, none⟩ = some (.int .i64 (n : Nat)) := by rw [cell_of_block h1c]; rfl
      have e0 := unfrozen_of_block h1c 0
      have e1 := unfrozen_of_block h1c 1
      have ltc : t < wc.heap.size := Nat.lt_of_lt_of_le lt f1.size
      have hF't : ¬ F' t := fun hk => by
        rcases n1 t hk with q | q
        · exact H5.out q
        · omega
      have hgF : F' g := by obtain ⟨v, G, ss⟩ := s1; rw [ss.foot]; exact .inl rfl
      have hgt : ¬ t = g := fun e => hF't (by rw [e]; exact hgF)
      obtain ⟨w3, hw3⟩ : ∃ w3, wc.setCell ⟨t, 1, none⟩ (.int .i64 ((n : Int) - 1)) = w3 := ⟨_, rfl⟩
      have fs : Frm (fun k => k = t) wc w3 := by rw [← hw3]; exact Frm.set1 (F := fun k => k = t) wc rfl 1 _
      have s3 := s1.step fs (fun k hk e => hF't (by rw [← e]; exact hk))
      have h13 : w3.heap[t]? = some (.cells #[.pointer (some ⟨g, 0, none⟩), .int .i64 ((n : Int) - 1)] 126 (0, 0)) := by rw [← hw3]; exact (tree_put h1c).2
      have x0 : w3.cell? ⟨t, 0, none⟩ = some (.pointer (some ⟨g, 0, none⟩)) := by rw [cell_of_block h13]; rfl
      have x0f := unfrozen_of_block h13 0
      have hw1 : IntKind.i64.wrap ((n : Int) - 1) = (n : Int) - 1 := IntWalk.i64_in _ (by omega)
      have hnn : ((n - 1 : Nat) : Int) = (n : Int) - 1 := by omega
      have HF' := Lib.hid ((f1.mono (fun k hk => .inr hk)).trans (F1 := fun k => k = t) (F := fun k => k = t ∨ Fr k) fs (fun k hk => .inl (.inl hk)))
      have HN' := Lib.hid (show New w (fun k => k = t ∨ Fr k) (fun k => k = t ∨ F' k) by
        rintro k (rfl | hk)
        · exact .inl (.inl rfl)
        · rcases n1 k hk with q | q
          · exact .inl (.inr q)
          · exact .inr q)
      have N1 := Lib.hid n1
      have S3 := Lib.hid s3
      have FT := Lib.hid hF't
      have H13 := Lib.hid h13
      have HW := Lib.hid hw3
      have HNN := Lib.hid hnn
      obtain ⟨a', cap', y0⟩ : ∃ a' cap', w3.cell? ⟨g, 0, none⟩ = some (.slice a' ps'.length cap') := by
        obtain ⟨v, G, ss⟩ := s3
        obtain ⟨a', cap', rfl, -⟩ := ss.nd.form
        exact ⟨a', cap', ss.nd.cell.1⟩
      obtain ⟨m', em⟩ : ∃ m', ps'.length = m' := ⟨_, rfl⟩
      rw [em] at y0 l1 l2
      have EM := Lib.hid em
      -- nothing else turns
      have HSTAY := Lib.hid (show (d = 0 ∨ 2 ≤ m') → P (.returned (.bool true)) w3 by
        intro hd
        rw [← HP.out]
        exact ⟨by rw [HT.out], _, HF'.out, HN'.out, d, F', g, ps', by rw [HLN.out, HNN.out]; exact H13.out, S3.out, by rw [EM.out]; omega, by rw [EM.out]; exact hd, FT.out, h6, rfl⟩)
      clear f1 n1 s1 fs s3 em hF't hgF h1c h13 hw3 hnn
      go_upto_region 4 with fail
      rw [HW.out]
      by_cases c1 : m' = 1
      · subst c1
        cases d with
        | zero =>
          have HLF := Lib.hid (isleaf_sub0 S3.out (by rw [EM.out]; decide))
          go_wp2_with (go_at_call 67; refine HLF.out.mono ?_; rintro e w4 ⟨rfl, rfl⟩)
          exact HSTAY.out (by simp)
        | succ d =>
          obtain ⟨v, G, ks, nod, hsz, hps, hes, hl, hF⟩ := S3.out.nod
          obtain ⟨c, rfl⟩ : ∃ c, ks = [c] := by
            have := EM.out
            rw [hps, List.length_map] at this
            exact List.length_eq_one_iff.1 this
          have HLF := Lib.hid (isleaf_nod nod (by simp) (by simp))
          obtain ⟨gb, cb, rfl, -, -, -, -, d2, -⟩ := nod.nd.own.at (i := 0) (p := c.pv) rfl
          have y1 := nod.nd.cell.1
          simp only [Kd.pv, kp, Option.map_some, Nat.zero_mul, Nat.zero_add, List.map_cons, List.map_nil, List.length_singleton] at d2 y1
          have HFIN := Lib.hid (show P (.returned (.bool true)) (w3.setCell ⟨t, 0, none⟩ (.pointer (some ⟨c.g, 0, none⟩))) by
            rw [← HP.out]
            have hcs := hsz c (List.mem_singleton.2 rfl)
            have hin : ∀ k, c.F k → F' k := fun k hk => by rw [hF]; exact .inr (.inr (by rw [nod.kids.foot]; exact ⟨c, List.mem_singleton.2 rfl, hk⟩))
            have fq : Frm (fun k => k = t) w3 (w3.setCell ⟨t, 0, none⟩ (.pointer (some ⟨c.g, 0, none⟩))) := Frm.set1 (F := fun k => k = t) w3 rfl 0 _
            have hsub := (nod.kids.sub c (List.mem_singleton.2 rfl)).step fq (fun k hk e => FT.out (by rw [← e]; exact hin k hk))
            have hck : c.k = [] := by simpa using hl
            have hce : c.es = eDel es k := by rw [hes]; simp
            rw [hck, hce] at hsub
            refine ⟨by rw [HT.out], fun k => k = t ∨ c.F k, HF'.out.trans fq (fun k hk => .inl (.inl hk)), ?_, d, c.F, c.g, c.ps, ?_, hsub, hcs.2, .inr (by omega), fun e => FT.out (hin _ e), h6, rfl⟩
            · rintro k (rfl | hk)
              · exact .inl (.inl rfl)
              · exact HN'.out k (.inr (hin k hk))
            · rw [HLN.out, HNN.out]
              exact (tree_put H13.out).1)
          clear nod hsz hps hes hl hF y0
          go_wp2_with (go_at_call 67; refine HLF.out.mono ?_; rintro e w4 ⟨rfl, rfl⟩)
          exact HFIN.out
      · have c2 : ((m' : Int) == 1) = false := by simp; omega
        have c3 : ¬ (m' : Int) = 1 := by omega
        have hd : d = 0 ∨ 2 ≤ m' := by
          rcases H4.out with q | q
          · exact .inl q
          · exact .inr (by omega)
        go_wp2_with fail
        exact HSTAY.out hd

end Go.Proofs.YtmmchhlfbhbigaaDoor

namespace Go.Proofs.YtmmchhlfbhbigaaDoor
set_option maxRecDepth 100000
open Go.RowKit Go.Joins Go.ChangeShapes Go.WideShapes
set_option linter.unusedVariables false
set_option linter.unusedSimpArgs false

/-- what get answers: the entry of a key -/
def GetPost (w : World) (es : List Ent) (k : List Nat) (e : Ending) (w' : World) : Prop :=
  Below w.heap.size w w' ∧ (((ePl es k).2 = true ∧ ∃ n s, es[(ePl es k).1]? = some (k, n) ∧ sl s = k ∧ e = .returned (.tuple #[PtV s n, .bool true])) ∨ ((ePl es k).2 = false ∧ e = .returned (.tuple #[PtV ⟨#[]⟩ 0, .bool false])))

theorem ePl_hit {es : List Ent} {k : List Nat} {x : Ent} (hx : es[(ePl es k).1]? = some x) : (ePl es k).2 = decide (x.1 = k) := by
  have h := ((ePlN_first k es 0).2.1 x (by simpa [ePl] using hx)).2
  change (ePl es k).2 = decide (ordB x.1 k = 0) at h
  rw [h, decide_eq_decide]
  exact ⟨ob_zero _ _, fun e => by rw [e]; exact ob_self _⟩
theorem ePl_miss {es : List Ent} {k : List Nat} (hx : es[(ePl es k).1]? = none) : (ePl es k).2 = false :=
  (ePlN_first k es 0).2.2 (by simpa [ePl] using hx)
theorem sl_inj' {s t : ByteArray} (h : sl s = sl t) : s = t := by rw [← strB_sl s, ← strB_sl t, h]

/-- a row of bytes in a block of its own (its mark whatever) -/
def OwK (w : World) (base : Nat) (v : Value) (l : List Nat) : Prop :=
  ∃ g cap, v = .slice (some ⟨g, 0, none⟩) l.length cap ∧ base ≤ g ∧ g < w.heap.size ∧ (∀ (i x : Nat), l[i]? = some x → w.cell? ⟨g, i, none⟩ = some (.int .u8 (x : Int))) ∧ (∀ i, i < l.length → w.frozen? ⟨g, i, none⟩ = false) ∧ ∀ x ∈ l, x < 256
theorem OwK.below {w w1 : World} {base : Nat} {v : Value} {l : List Nat} (h : OwK w base v l) (hb : Below w.heap.size w w1) : OwK w1 base v l := by
  obtain ⟨g, cap, e, h1, h2, h3, h4, h5⟩ := h
  obtain ⟨hc, hf⟩ := bcell hb
  exact ⟨g, cap, e, h1, Nat.lt_of_lt_of_le h2 hb.size, fun i x hx => (hc _ _ h2).trans (h3 i x hx), fun i hi => (hf _ _ h2).trans (h4 i hi), h5⟩
theorem OwK.keyAt {w : World} {base : Nat} {v : Value} {l : List Nat} (h : OwK w base v l) {R : Bl} (hR : ∀ g, v.ownBlock = some g → R g) : KeyAt w R v l := by
  obtain ⟨g, cap, rfl, h1, h2, h3, h4, h5⟩ := h
  exact ⟨_, g, 0, cap, rfl, .inr ⟨rfl, hR g rfl⟩, ⟨fun _ => h2, fun i x hx => by rw [Nat.zero_add]; exact h3 i x hx, h5⟩⟩
theorem OwK.lt {w : World} {base : Nat} {v : Value} {l : List Nat} (h : OwK w base v l) : ∀ k, v.ownBlock = some k → base ≤ k ∧ k < w.heap.size := by
  obtain ⟨g, cap, rfl, h1, h2, -⟩ := h
  intro k hk
  simp only [Value.ownBlock, Option.some.injEq] at hk
  subst hk
  exact ⟨h1, h2⟩
/-- its block is one of bytes -/
def TyK (w : World) (v : Value) : Prop := ∀ g, v.ownBlock = some g → ∃ cs fr, w.heap[g]? = some (.cells cs 5 fr)
/-- a text as bytes in new memory -/
theorem conv_bytes (w : World) (s : ByteArray) : ∃ c w', (convert 9 30 (.string s)).run Tryd.prog w = .ok (.slice (some ⟨w.heap.size, 0, none⟩) s.size c) w' ∧ Below w.heap.size w w' ∧ OwK w' w.heap.size (.slice (some ⟨w.heap.size, 0, none⟩) s.size c) (sl s) ∧ w'.heap.size = w.heap.size + 1 ∧ ∃ cs fr, w'.heap[w.heap.size]? = some (.cells cs 5 fr) := by
  refine ⟨_, _, Lib.run_convert_string_bytes w 9 30 5 s Tryd.underlying9 Tryd.underlying30 Tryd.underlying5, ⟨rfl, rfl, rfl, by rw [Lib.bytesWorld_size]; omega, fun k hk => Lib.bytesWorld_at_old w _ s k hk⟩, ?_, Lib.bytesWorld_size w _ s, _, _, Lib.bytesWorld_at_new w _ s⟩
  refine ⟨w.heap.size, _, by rw [sl_length], Nat.le_refl _, by rw [Lib.bytesWorld_size]; omega, fun i x hx => ?_, fun i hi => ?_, sl_lt s⟩
  · have hi : i < s.size := by rw [← sl_length]; exact (List.getElem?_eq_some_iff.1 hx).1
    rw [Lib.bytesWorld_cell w _ s i hi]
    unfold sl at hx
    rw [List.getElem?_map] at hx
    obtain ⟨b, hb, rfl⟩ := Option.map_eq_some_iff.1 hx
    rw [List.getD_eq_getElem?_getD, hb]
    rfl
  · rw [sl_length] at hi
    unfold World.frozen?
    rw [Lib.bytesWorld_at_new]
    simp [Lib.bytesCells]
    omega

set_option maxHeartbeats 4000000 in
set_option maxRecDepth 100000 in
theorem pentry_ty (w : World) (s : ByteArray) (n : Int) :
    Calls Tryd.prog 70 #[PtV s n] w fun e w' => ∃ v, e = .returned (.agg #[v, .int .i64 n]) ∧ OwK w' w.heap.size v (sl s) ∧ Below w.heap.size w w' ∧ TyK w' v := by
  generalize hP : (fun (e : Ending) (w' : World) => ∃ v, e = .returned (.agg #[v, .int .i64 n]) ∧ OwK w' w.heap.size v (sl s) ∧ Below w.heap.size w w' ∧ TyK w' v) = P
  have HP := Lib.hid hP
  obtain ⟨W2, hW2⟩ : ∃ W2, (w.alloc (.cells #[.string s, .int .i64 n, .pointer none] 131)).alloc (.cells #[.slice none 0 0, .int .i64 0] 80) = W2 := ⟨_, rfl⟩
  have b2 : Below w.heap.size w W2 := by rw [← hW2]; exact ((Below.refl _ _).alloc (Nat.le_refl _) _).alloc (by simp) _
  have s2 : W2.heap.size = w.heap.size + 2 := by rw [← hW2]; simp
  have p2 : W2.heap[w.heap.size]? = some (.cells #[.string s, .int .i64 n, .pointer none] 131 (0, 0)) := by
    rw [← hW2, heap_alloc_old _ _ (by simp)]; exact heap_alloc_new w _
  have q2 : W2.heap[w.heap.size + 1]? = some (.cells #[.slice none 0 0, .int .i64 0] 80 (0, 0)) := by
    have e : (w.alloc (.cells #[.string s, .int .i64 n, .pointer none] 131)).heap.size = w.heap.size + 1 := by simp
    rw [← hW2, ← e]; exact heap_alloc_new _ _
  obtain ⟨c, W3, hcv, b3, o3, s3, cs3, fr3, t3⟩ := conv_bytes W2 s
  have p3 : W3.heap[w.heap.size]? = some (.cells #[.string s, .int .i64 n, .pointer none] 131 (0, 0)) := by rw [b3.block _ (by omega)]; exact p2
  have q3 : W3.heap[w.heap.size + 1]? = some (.cells #[.slice none 0 0, .int .i64 0] 80 (0, 0)) := by rw [b3.block _ (by omega)]; exact q2
  obtain ⟨z, hz⟩ : ∃ z, w.heap.size = z := ⟨_, rfl⟩
  have HZ := Lib.hid hz
  rw [hz] at p2 q2 p3 q3 s2
  have d0 : W2.cell? ⟨z, 0, none⟩ = some (.string s) := by rw [cell_of_block p2]; rfl
  have d1 : W2.cell? ⟨z, 1, none⟩ = some (.int .i64 n) := by rw [cell_of_block p2]; rfl
  have d3 : W3.cell? ⟨z, 1, none⟩ = some (.int .i64 n) := by rw [cell_of_block p3]; rfl
  have e0 : W3.cell? ⟨z + 1, 0, none⟩ = some (.slice none 0 0) := by rw [cell_of_block q3]; rfl
  have e1 : W3.cell? ⟨z + 1, 1, none⟩ = some (.int .i64 0) := by rw [cell_of_block q3]; rfl
  have f0 := unfrozen_of_block q3 0
  have f1 := unfrozen_of_block q3 1
  have HFIN := Lib.hid (show ∀ wx, Frm (fun k => k = z + 1) W3 wx → P (.returned (.agg #[.slice (some ⟨W2.heap.size, 0, none⟩) s.size c, .int .i64 n])) wx by
    intro wx hf
    rw [← HP.out]
    refine ⟨_, rfl, ?_, ?_, ?_⟩
    · obtain ⟨g, cap, e, h1, h2, h3, h4, h5⟩ := o3
      injection e with e e6 e7
      injection e with e
      injection e with e
      refine ⟨g, cap, by rw [← e, ← e6, ← e7], by omega, Nat.lt_of_lt_of_le h2 hf.size, fun i x hx => ?_, fun i hi => ?_, h5⟩
      · rw [hf.cell h2 (by omega)]; exact h3 i x hx
      · rw [hf.frozen h2 (by omega)]; exact h4 i hi
    · have := HZ.out
      exact ((Frm.of_below (F := fun k => w.heap.size ≤ k) b2).trans (F1 := fun k => w.heap.size ≤ k) ((Frm.of_below (F := fun k => w.heap.size ≤ k) b3).trans (F1 := fun k => k = z + 1) hf (fun k hk => .inl (by omega))) (fun k hk => .inl hk)).below (fun k hk => hk) (Nat.le_refl _)
    · intro g hg
      simp only [Value.ownBlock, Option.some.injEq] at hg
      subst hg
      exact ⟨cs3, fr3, (hf.heap (by omega) (by omega)).trans t3⟩)
  have HW := Lib.hid hW2
  obtain ⟨y, hy⟩ : ∃ y, W2.heap.size = y := ⟨_, rfl⟩
  rw [hy] at hcv HFIN
  unfold PtV
  clear hP b2 p2 q2 b3 o3 s3 t3 p3 q3 hz hW2 s2 hy
  go_enter Tryd.func70, Tryd.ntmps70
  go_upto_region 1 with fail
  rw [HW.out, HZ.out]
  go_wp2
  refine bodyPost_ret (v := .agg #[.slice (some ⟨y, 0, none⟩) s.size c, .int .i64 n]) (by simp [results, Tryd.results70, go_sem, e0, e1, f0, f1]) rfl (HFIN.out _ ?_)
  exact (Frm.set1 (F := fun k => k = z + 1) W3 rfl 0 _).setCell (.inl rfl) 1 _

theorem pentry_any (w : World) (s : ByteArray) (n : Int) :
    Calls Tryd.prog 70 #[PtV s n] w fun e w' => ∃ v, e = .returned (.agg #[v, .int .i64 n]) ∧ OwK w' w.heap.size v (sl s) ∧ Below w.heap.size w w' :=
  (pentry_ty w s n).mono fun _ _ ⟨v, a, b, c, _⟩ => ⟨v, a, b, c⟩

end Go.Proofs.YtmmchhlfbhbigaaDoor

namespace Go.Proofs.YtmmchhlfbhbigaaDoor
set_option maxRecDepth 100000
open Go.RowKit Go.Joins Go.ChangeShapes Go.WideShapes
set_option linter.unusedVariables false
set_option linter.unusedSimpArgs false

/-- an empty entry that has just been made -/
theorem zboxE (w : World) : ∃ W1, w.alloc (.cells #[.slice none 0 0, .int .i64 0] 80) = W1 ∧ Below w.heap.size w W1 ∧ w.heap.size < W1.heap.size ∧ ∀ wx, Below W1.heap.size W1 wx →
    wx.cell? ⟨w.heap.size, 0, none⟩ = some (.slice none 0 0) ∧ wx.cell? ⟨w.heap.size, 1, none⟩ = some (.int .i64 0) ∧ wx.frozen? ⟨w.heap.size, 0, none⟩ = false ∧ wx.frozen? ⟨w.heap.size, 1, none⟩ = false := by
  refine ⟨_, rfl, (Below.refl _ _).alloc (Nat.le_refl _) _, by simp, fun wx hb => ?_⟩
  have hnew : wx.heap[w.heap.size]? = some (.cells #[.slice none 0 0, .int .i64 0] 80 (0, 0)) := by
    rw [hb.block _ (by simp)]; exact heap_alloc_new w _
  refine ⟨?_, ?_, unfrozen_of_block hnew 0, unfrozen_of_block hnew 1⟩ <;> rw [cell_of_block hnew] <;> rfl
def FromE (w : World) (es : List Ent) (k : List Nat) (e : Ending) (w' : World) : Prop :=
  Below w.heap.size w w' ∧ ((∃ x v, es[(ePl es k).1]? = some x ∧ OwK w' w.heap.size v x.1 ∧ e = .returned (.tuple #[.agg #[v, .int .i64 x.2], .bool true])) ∨ (es[(ePl es k).1]? = none ∧ e = .returned (.tuple #[.agg #[.slice none 0 0, .int .i64 0], .bool false])))
theorem OwK.step {w w1 : World} {base : Nat} {v : Value} {l : List Nat} {F : Bl} (h : OwK w base v l) (hf : Frm F w w1) (hd : ∀ k, v.ownBlock = some k → ¬ F k) : OwK w1 base v l := by
  obtain ⟨g, cap, rfl, h1, h2, h3, h4, h5⟩ := h
  have hg := hd g rfl
  exact ⟨g, cap, rfl, h1, Nat.lt_of_lt_of_le h2 hf.size, fun i x hx => (hf.cell h2 hg i).trans (h3 i x hx), fun i hi => (hf.frozen h2 hg i).trans (h4 i hi), h5⟩
theorem OwK.le {w : World} {base b' : Nat} {v : Value} {l : List Nat} (h : OwK w base v l) (hb : b' ≤ base) : OwK w b' v l := by
  obtain ⟨g, cap, e, h1, h2⟩ := h
  exact ⟨g, cap, e, Nat.le_trans hb h1, h2⟩

theorem part_put {w : World} {g : Nat} {a b c x y z : Value} (h : w.heap[g]? = some (.cells #[a, b, c] 131 (0, 0))) : (((w.setCell ⟨g, 0, none⟩ x).setCell ⟨g, 1, none⟩ y).setCell ⟨g, 2, none⟩ z).heap[g]? = some (.cells #[x, y, z] 131 (0, 0)) := by
  have h1 : (w.setCell ⟨g, 0, none⟩ x).heap[g]? = some (.cells #[x, b, c] 131 (0, 0)) := by rw [setCell_eq_setRow w g 0 #[a, b, c] _ _ x h, setRow_heap w g _ _ _ _ h]; rfl
  have h2 : ((w.setCell ⟨g, 0, none⟩ x).setCell ⟨g, 1, none⟩ y).heap[g]? = some (.cells #[x, y, c] 131 (0, 0)) := by rw [setCell_eq_setRow _ g 1 #[x, b, c] _ _ y h1, setRow_heap _ g _ _ _ _ h1]; rfl
  rw [setCell_eq_setRow _ g 2 #[x, y, c] _ _ z h2, setRow_heap _ g _ _ _ _ h2]; rfl
/-- a part's box that was made ahead of a call, or behind it -/
theorem box_late {W w3 : World} (hb : Below W.heap.size W w3) (s : ByteArray) (n : Int) : Below W.heap.size W (w3.alloc (.cells #[.string s, .int .i64 n, .pointer none] 131)) ∧ (w3.alloc (.cells #[.string s, .int .i64 n, .pointer none] 131)).heap[w3.heap.size]? = some (.cells #[.string s, .int .i64 n, .pointer none] 131 (0, 0)) :=
  ⟨hb.alloc hb.size _, heap_alloc_new _ _⟩
theorem box_early {W w2 w3 : World} (h2 : w2 = (W.alloc (.cells #[.string ⟨#[]⟩, .int .i64 0, .pointer none] 131)).drew) (hb : Below w2.heap.size w2 w3) (s : ByteArray) (n : Int) :
    (Below W.heap.size W (((w3.setCell ⟨W.heap.size, 0, none⟩ (.string s)).setCell ⟨W.heap.size, 1, none⟩ (.int .i64 n)).setCell ⟨W.heap.size, 2, none⟩ (.pointer none)) ∧ (((w3.setCell ⟨W.heap.size, 0, none⟩ (.string s)).setCell ⟨W.heap.size, 1, none⟩ (.int .i64 n)).setCell ⟨W.heap.size, 2, none⟩ (.pointer none)).heap[W.heap.size]? = some (.cells #[.string s, .int .i64 n, .pointer none] 131 (0, 0))) ∧
    (w3.cell? ⟨W.heap.size, 0, none⟩ = some (.string ⟨#[]⟩) ∧ w3.cell? ⟨W.heap.size, 1, none⟩ = some (.int .i64 0) ∧ w3.cell? ⟨W.heap.size, 2, none⟩ = some (.pointer none) ∧ w3.frozen? ⟨W.heap.size, 0, none⟩ = false ∧ w3.frozen? ⟨W.heap.size, 1, none⟩ = false ∧ w3.frozen? ⟨W.heap.size, 2, none⟩ = false) := by
  have hs : w2.heap.size = W.heap.size + 1 := by rw [h2]; simp [World.drew, -World.drew_eq]
  have hn : w3.heap[W.heap.size]? = some (.cells #[.string ⟨#[]⟩, .int .i64 0, .pointer none] 131 (0, 0)) := by
    rw [hb.block _ (by omega), h2]
    exact heap_alloc_new W _
  refine ⟨⟨?_, part_put hn⟩, ?_, ?_, ?_, unfrozen_of_block hn 0, unfrozen_of_block hn 1, unfrozen_of_block hn 2⟩
  · refine ((Below.setCell ?_ (Nat.le_refl W.heap.size) _).setCell (Nat.le_refl W.heap.size) _).setCell (Nat.le_refl W.heap.size) _
    have : Below W.heap.size W w2 := by rw [h2]; exact ((Below.refl _ _).alloc (Nat.le_refl _) _).drew
    exact this.trans (hb.mono (by omega))
  all_goals (rw [cell_of_block hn]; rfl)

set_option maxHeartbeats 4000000 in
set_option maxRecDepth 100000 in
theorem tfrom_any (B : Nat) (w : World) (F : Bl) (t : Nat) (es : List Ent) (h : TrX B w F t es) (R : Bl) (u : Value) (k : List Nat) (hu : KeyAt w R u k) :
    Calls Tryd.prog 40 #[.pointer (some ⟨t, 0, none⟩), u] w (FromE w es k) := by
  generalize hP : FromE w es k = P
  have HP := Lib.hid hP
  have hks : sl (strB k) = k := sl_strB hu.choose_spec.choose_spec.choose_spec.choose_spec.2.2.lt
  obtain ⟨W1, hW1, hb, hz1, hzc⟩ := zboxE w
  have hst : (convert 30 9 u).run Tryd.prog W1.drew = .ok (.string (strB k)) W1.drew := (hu.step (Frm.of_below (F := fun _ => False) hb) (fun _ _ h => h)).strN 1
  have hst2 : (convert 30 9 u).run Tryd.prog (W1.alloc (.cells #[.string ⟨#[]⟩, .int .i64 0, .pointer none] 131)).drew = .ok (.string (strB k)) (W1.alloc (.cells #[.string ⟨#[]⟩, .int .i64 0, .pointer none] 131)).drew := (hu.step (Frm.of_below (F := fun _ => False) (hb.alloc hb.size _)) (fun _ _ h => h)).strN 1
  obtain ⟨d, Fr, g, ps, h1, h2, h3, h4, h5, h6, rfl⟩ := h.below hb
  have HFR := Lib.hid (fun wx (hb : Below W1.heap.size W1 wx) => from_d B (strB k) d wx Fr g [] ps es (h2.below hb) h3 (nklt_nil _))
  rw [hks] at HFR
  have x0 : W1.cell? ⟨t, 0, none⟩ = some (.pointer (some ⟨g, 0, none⟩)) := by rw [cell_of_block h1]; rfl
  have ltW : t < W1.heap.size := (Array.getElem?_eq_some_iff.1 h1).1
  obtain ⟨z, hz⟩ : ∃ z, w.heap.size = z := ⟨_, rfl⟩
  rw [hz] at hzc hz1
  have HZ := Lib.hid hz
  have HZC := Lib.hid hzc
  have HB := Lib.hid hb
  have HW := Lib.hid hW1
  have FIN := Lib.hid (show ∀ wx, Below W1.heap.size W1 wx → Below z w wx by
    intro wx hbx
    have hq := HZ.out
    subst hq
    exact HB.out.trans (hbx.mono (by omega)))
  have HF2 := Lib.hid (show ∀ wx, Below W1.heap.size W1 wx → Calls Tryd.prog 69 #[.pointer (some ⟨g, 0, none⟩), .string (strB k)] wx fun e w3 => Below wx.heap.size wx w3 ∧ ∃ (u : ByteArray) (n : Int) (b : Bool), e = .returned (.tuple #[.agg #[.string u, .int .i64 n, .pointer none], .bool b]) ∧ ((b = true ∧ es[(ePl es k).1]? = some (sl u, n)) ∨ (b = false ∧ es[(ePl es k).1]? = none)) by
    intro wx hbx
    refine (HFR.out wx hbx).mono ?_
    rintro e w3 ⟨b3, hx⟩
    refine ⟨b3, ?_⟩
    rcases hx with ⟨x, u, q1, q2, rfl⟩ | ⟨q1, rfl⟩
    · exact ⟨u, x.2, true, rfl, .inl ⟨rfl, by rw [q1, q2]⟩⟩
    · exact ⟨_, _, false, rfl, .inr ⟨rfl, q1⟩⟩)
  have HOK := Lib.hid (show ∀ wx v s n, es[(ePl es k).1]? = some (sl s, n) → OwK wx z v (sl s) → Below z w wx → P (.returned (.tuple #[.agg #[v, .int .i64 n], .bool true])) wx by
    intro wx v s n hx ho hbx
    rw [← HP.out]
    exact ⟨by rw [HZ.out]; exact hbx, .inl ⟨(sl s, n), v, hx, by rw [HZ.out]; exact ho, rfl⟩⟩)
  have HNO := Lib.hid (show ∀ wx, es[(ePl es k).1]? = none → Below z w wx → P (.returned (.tuple #[.agg #[.slice none 0 0, .int .i64 0], .bool false])) wx by
    intro wx hx hbx
    rw [← HP.out]
    exact ⟨by rw [HZ.out]; exact hbx, .inr ⟨hx, rfl⟩⟩)
  obtain ⟨a, m, cap, eu⟩ : ∃ a m cap, u = .slice a m cap := by obtain ⟨a, b, off, cap, e, -⟩ := hu; exact ⟨a, _, cap, e⟩
  subst eu
  clear hP h h1 h2 h4 h5 hb hzc hW1 hz hu hks
  go_enter Tryd.func40, Tryd.ntmps40
  go_upto_region 1 with fail
  rw [HW.out, HZ.out]
  go_cut [7, 6, 4] (fun q6 q5 q4 wx => ∃ (s : ByteArray) (n : Int) (b : Bool) (g6 : Nat), q6 = .bool b ∧ q5 = .pointer (some ⟨g6, 0, none⟩) ∧ q4 = .pointer (some ⟨z, 0, none⟩) ∧ (Below W1.heap.size W1 wx ∧ wx.heap[g6]? = some (.cells #[.string s, .int .i64 n, .pointer none] 131 (0, 0))) ∧ ((b = true ∧ es[(ePl es k).1]? = some (sl s, n)) ∨ (b = false ∧ es[(ePl es k).1]? = none)))
  case first =>
    go_region_law (first
      | (go_simp; go_at_call 69; (with_reducible refine (HF2.out W1.drew ((Below.refl _ _).drew)).mono ?_); rintro e w3 ⟨b3, s, n, b, rfl, hx⟩; have HX := Lib.hid (And.intro (box_late (stepB ((Below.refl _ _).drew) b3) s n) hx); clear hx b3)
      | (go_simp; go_at_call 69; refine (HF2.out (W1.alloc (.cells #[.string ⟨#[]⟩, .int .i64 0, .pointer none] 131)).drew (((Below.refl _ _).alloc (Nat.le_refl _) _).drew)).mono ?_; rintro e w3 ⟨b3, s, n, b, rfl, hx⟩; obtain ⟨hq, c3, c4, c5, f3, f4, f5⟩ := box_early rfl b3 s n; have HX := Lib.hid (And.intro hq hx); clear hq hx b3))
    all_goals
      go_wp2_with fail
      go_meet
      exact ⟨_, _, _, _, rfl, rfl, rfl, HX.out.1, HX.out.2⟩
  case rest =>
    obtain ⟨s, n, b, g6, rfl, rfl, rfl, ⟨b4, p4⟩, hx⟩ := hcut
    have y0 : wc.cell? ⟨g6, 0, none⟩ = some (.string s) := by rw [cell_of_block p4]; rfl
    have y1 : wc.cell? ⟨g6, 1, none⟩ = some (.int .i64 n) := by rw [cell_of_block p4]; rfl
    have y2 : wc.cell? ⟨g6, 2, none⟩ = some (.pointer none) := by rw [cell_of_block p4]; rfl
    obtain ⟨c0, c1, f0, f1⟩ := HZC.out _ b4
    have hsz := b4.size
    have HB4 := Lib.hid b4
    have HX := Lib.hid hx
    clear b4 p4 hx
    rcases HX.out with ⟨rfl, q1⟩ | ⟨rfl, q1⟩
    · have HQ := Lib.hid q1
      clear q1 HX
      have HPE := Lib.hid (pentry_any wc s n)
      unfold PtV at HPE
      go_wp2_with (go_at_call 70; refine HPE.out.mono ?_; rintro e w5 ⟨v5, rfl, o5, b5⟩; obtain ⟨g5, cp5, rfl, ho5⟩ := o5; have b6 := stepB HB4.out b5; obtain ⟨c0, c1, f0, f1⟩ := HZC.out _ b6; have HB6 := Lib.hid b6; have HO5 := Lib.hid ho5; have HB5 := Lib.hid b5; clear b5 b6 ho5)
      refine bodyPost_ret (v := .tuple #[.agg #[.slice (some ⟨g5, 0, none⟩) (sl s).length cp5, .int .i64 n], .bool true]) (by simp [results, Tryd.results40, go_sem, c0, c1, f0, f1]) rfl (HOK.out _ _ s n HQ.out ?_ ?_)
      · have ho : OwK w5 wc.heap.size (.slice (some ⟨g5, 0, none⟩) (sl s).length cp5) (sl s) := ⟨g5, cp5, rfl, HO5.out⟩
        refine (ho.step (F := fun k => k = z) ((Frm.set1 (F := fun k => k = z) w5 rfl 0 _).setCell (.inl rfl) 1 _) (fun k hk e => ?_)).le (by omega)
        have := (ho.lt k hk).1
        omega
      · refine (Below.setCell ?_ (Nat.le_refl z) _).setCell (Nat.le_refl z) _
        exact FIN.out _ HB6.out
    · have HQ := Lib.hid q1
      clear q1 HX
      go_wp2_with fail
      refine bodyPost_ret (v := .tuple #[.agg #[.slice none 0 0, .int .i64 0], .bool false]) (by simp [results, Tryd.results40, go_sem, c0, c1, f0, f1]) rfl (HNO.out _ HQ.out ?_)
      refine (Below.setCell ?_ (Nat.le_refl z) _).setCell (Nat.le_refl z) _
      exact FIN.out _ HB4.out

end Go.Proofs.YtmmchhlfbhbigaaDoor
