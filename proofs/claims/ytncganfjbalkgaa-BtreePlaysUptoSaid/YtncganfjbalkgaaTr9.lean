/-
  put into a tree of any depth: a contract over the translation.
  Conditions: the tree lies in memory.
-/
import Derived.Test.YtncganfjbalkgaaTr8
namespace Go.Proofs.Ytncganfjbalkgaa
open Go.RowKit Go.Joins Go.ChangeShapes Go.WideShapes
set_option linter.unusedVariables false

theorem ePlN_first (k : List Nat) : ∀ (l : List Ent) (s : Nat), (∀ e ∈ l.take ((ePlN l k s).1 - s), klt e.1 k) ∧ (∀ e, l[(ePlN l k s).1 - s]? = some e → ¬ klt e.1 k ∧ (ePlN l k s).2 = decide (ordB e.1 k = 0)) ∧ (l.length ≤ (ePlN l k s).1 - s → (ePlN l k s).2 = false)
  | [], s => by simp [ePlN]
  | x :: l, s => by
    unfold ePlN
    by_cases q : 0 ≤ ordB x.1 k
    · rw [if_pos q]
      refine ⟨by simp, fun e he => ?_, fun h => by simp at h⟩
      simp only [Nat.sub_self, List.getElem?_cons_zero, Option.some.injEq] at he
      subst he
      exact ⟨not_klt.1 q, rfl⟩
    · rw [if_neg q]
      obtain ⟨h1, h2, h3⟩ := ePlN_first k l (s + 1)
      have hge := (ePlN_le l k (s + 1)).1
      obtain ⟨j, hj⟩ : ∃ j, (ePlN l k (s + 1)).1 = s + 1 + j := ⟨(ePlN l k (s + 1)).1 - (s + 1), by omega⟩
      rw [hj] at h1 h2 h3 ⊢
      rw [show s + 1 + j - (s + 1) = j by omega] at h1 h2 h3
      rw [show s + 1 + j - s = j + 1 by omega]
      refine ⟨fun e he => ?_, fun e he => h2 e (by simpa using he), fun h => h3 (by simpa using h)⟩
      rw [List.take_succ_cons] at he
      rcases List.mem_cons.1 he with rfl | he
      · unfold klt; omega
      · exact h1 e he
theorem ePl_take {l : List Ent} {k : List Nat} : ∀ e ∈ l.take (ePl l k).1, klt e.1 k := (ePlN_first k l 0).1
theorem ePl_drop {l : List Ent} {k : List Nat} (hs : Srt l) (hf : (ePl l k).2 = false) : ∀ e ∈ l.drop (ePl l k).1, klt k e.1 := by
  intro e he
  have h2 := (ePlN_first k l 0).2.1
  simp only [Nat.sub_zero] at h2
  change ∀ e, l[(ePl l k).1]? = some e → ¬ klt e.1 k ∧ (ePl l k).2 = decide (ordB e.1 k = 0) at h2
  generalize (ePl l k).1 = i at *
  cases hx : l[i]? with
  | none =>
    rw [List.drop_eq_nil_of_le (by simpa using hx)] at he
    cases he
  | some x =>
    obtain ⟨q1, q2⟩ := h2 x hx
    rw [hf] at q2
    have q3 : ¬ ordB x.1 k = 0 := of_decide_eq_false q2.symm
    have q4 : klt k x.1 := by
      rcases klt_or k x.1 with h | h | h
      · exact h
      · rw [h] at q3; exact absurd (ob_self _) q3
      · exact absurd h q1
    rw [drop_cons hx] at he
    rcases List.mem_cons.1 he with rfl | he
    · exact q4
    · have hd := hs.sublist (List.drop_sublist i l)
      rw [drop_cons hx] at hd
      exact klt_trans q4 ((List.pairwise_cons.1 hd).1 e he)
theorem ePut_srt {l : List Ent} {k : List Nat} {id : Int} (hs : Srt l) : Srt (ePut l k id) := by
  unfold ePut
  split
  · exact hs
  · rename_i hf
    have hf' : (ePl l k).2 = false := by simpa using hf
    have h1 := ePl_take (l := l) (k := k)
    have h2 := ePl_drop hs hf'
    have hp : l = l.take (ePl l k).1 ++ l.drop (ePl l k).1 := (List.take_append_drop _ _).symm
    have hs' := hs
    unfold Srt at hs' ⊢
    rw [hp, List.pairwise_append] at hs'
    rw [List.append_assoc]
    refine List.pairwise_append.2 ⟨hs'.1, List.pairwise_append.2 ⟨List.pairwise_singleton _ _, hs'.2.1, ?_⟩, ?_⟩
    · intro a ha b hb
      simp only [List.mem_singleton] at ha
      subst ha
      exact h2 b hb
    · intro a ha b hb
      rcases List.mem_append.1 hb with hb | hb
      · simp only [List.mem_singleton] at hb
        subst hb
        exact h1 a ha
      · exact hs'.2.2 a ha b hb
theorem ePut_mem {l : List Ent} {k : List Nat} {id : Int} {e : Ent} (h : e ∈ ePut l k id) : e ∈ l ∨ e = (k, id) := by
  unfold ePut at h
  split at h
  · exact .inl h
  · rcases List.mem_append.1 h with h | h
    · rcases List.mem_append.1 h with h | h
      · exact .inl (List.mem_of_mem_take h)
      · exact .inr (by simpa using h)
    · exact .inl (List.mem_of_mem_drop h)
theorem eDel_mem {l : List Ent} {k : List Nat} {e : Ent} (h : e ∈ eDel l k) : e ∈ l := by
  unfold eDel at h
  split at h
  · rcases List.mem_append.1 h with h | h
    · exact List.mem_of_mem_take h
    · exact List.mem_of_mem_drop h
  · exact h
theorem eDel_srt {l : List Ent} {k : List Nat} (hs : Srt l) : Srt (eDel l k) := by
  unfold eDel
  split
  · refine hs.sublist ?_
    conv => rhs; rw [← List.take_append_drop (ePl l k).1 l]
    exact (List.Sublist.refl _).append (by rw [← List.drop_drop]; exact List.drop_sublist _ _)
  · exact hs

/-- a child has turned -/
theorem Nod.kid {B d : Nat} {w w2 : World} {g : Nat} {v : Value} {G F' : Bl} {A C : List Kd} {c : Kd} {ps' : List Pv} {es' : List Ent} (h : Nod B d w g v G (A ++ c :: C)) (hf : Frm c.F w w2) (hn : New w c.F F')
    (hs : Sub B d w2 F' c.g c.k ps' es') (hC : ∀ e ∈ es', ∀ x ∈ C, klt e.1 x.k) :
    ∃ G2, Nod B d w2 g v G2 (A ++ { c with F := F', ps := ps', es := es' } :: C) ∧ New w (Fo g v G) (Fo g v G2) := by
  have hr := List.pairwise_append.1 h.kids.rise
  have hr2 := List.pairwise_cons.1 hr.2.1
  have mc : c ∈ A ++ c :: C := List.mem_append_right _ (List.mem_cons_self ..)
  have mo : ∀ x, x ∈ A ∨ x ∈ C → x ∈ A ++ c :: C := by
    rintro x (hx | hx)
    · exact List.mem_append_left _ hx
    · exact List.mem_append_right _ (List.mem_cons_of_mem _ hx)
  have inG : ∀ x ∈ A ++ c :: C, ∀ k, x.F k → G k := fun x hx k hk => by rw [h.kids.foot]; exact ⟨x, hx, hk⟩
  have hoth : ∀ x, x ∈ A ∨ x ∈ C → ∀ k, x.F k → ¬ c.F k := by
    rintro x (hx | hx) k hk
    · exact (hr.2.2 x hx c (List.mem_cons_self ..)).2.2 k hk
    · exact fun hck => (hr2.1 x hx).2.2 k hck hk
  have hw : ∀ x, x ∈ A ∨ x ∈ C → Sub B d w2 x.F x.g x.k x.ps x.es := fun x hx => (h.kids.sub x (mo x hx)).step hf (hoth x hx)
  have old : ∀ k, G k → k ≠ g ∧ v.ownBlock ≠ some k ∧ B ≤ k ∧ k < w2.heap.size := by
    intro k hk
    obtain ⟨q1, q2, q3, q4⟩ := h.apart k hk
    exact ⟨q1, q2, q3, Nat.lt_of_lt_of_le q4 hf.size⟩
  have hd : ∀ x, x ∈ A ∨ x ∈ C → ∀ k, x.F k → ¬ F' k := by
    intro x hx k hk hk'
    rcases hn k hk' with q | q
    · exact hoth x hx k hk q
    · have := (h.apart k (inG x (mo x hx) k hk)).2.2.2; omega
  have hng : ∀ k, c.F k → k ≠ g ∧ v.ownBlock ≠ some k := fun k hk => ⟨(h.apart k (inG c mc k hk)).1, (h.apart k (inG c mc k hk)).2.1⟩
  refine ⟨fun k => ∃ x ∈ A ++ { c with F := F', ps := ps', es := es' } :: C, x.F k, ⟨?_, ⟨?_, ?_, rfl⟩, ?_⟩, ?_⟩
  · have := h.nd.step hf (fun e => (hng g e).1 rfl) (fun k hk e => (hng k e).2 hk)
    simpa [Kd.pv] using this
  · intro x hx
    rcases List.mem_append.1 hx with hx | hx
    · exact hw x (.inl hx)
    · rcases List.mem_cons.1 hx with rfl | hx
      · exact hs
      · exact hw x (.inr hx)
  · refine List.pairwise_append.2 ⟨hr.1, List.pairwise_cons.2 ⟨fun x hx => ⟨(hr2.1 x hx).1, fun e he => hC e he x hx, fun k hk hxk => hd x (.inr hx) k hxk hk⟩, hr2.2⟩, fun a ha x hx => ?_⟩
    rcases List.mem_cons.1 hx with rfl | hx
    · have q := hr.2.2 a ha c (List.mem_cons_self ..)
      exact ⟨q.1, q.2.1, fun k hk hxk => hd a (.inl ha) k hk hxk⟩
    · exact hr.2.2 a ha x (List.mem_cons_of_mem _ hx)
  · rintro k ⟨x, hx, hxk⟩
    rcases List.mem_append.1 hx with hx | hx
    · exact old k (inG x (mo x (.inl hx)) k hxk)
    · rcases List.mem_cons.1 hx with rfl | hx
      · rcases hn k hxk with q | q
        · exact old k (inG c mc k q)
        · refine ⟨fun e => ?_, fun e => ?_, (hs.low k hxk)⟩
          · have := h.nd.lt; omega
          · have := (h.nd.own.lt k e).2; omega
      · exact old k (inG x (mo x (.inr hx)) k hxk)
  · intro k hk
    rcases hk with hk | hk | ⟨x, hx, hxk⟩
    · exact .inl (.inl hk)
    · exact .inl (.inr (.inl hk))
    · rcases List.mem_append.1 hx with hx | hx
      · exact .inl (.inr (.inr (inG x (mo x (.inl hx)) k hxk)))
      · rcases List.mem_cons.1 hx with rfl | hx
        · rcases hn k hxk with q | q
          · exact .inl (.inr (.inr (inG c mc k q)))
          · exact .inr q
        · exact .inl (.inr (.inr (inG x (mo x (.inr hx)) k hxk)))
theorem Nod.below {B d : Nat} {w w1 : World} {g : Nat} {v : Value} {G : Bl} {ks : List Kd} (h : Nod B d w g v G ks) (hb : Below w.heap.size w w1) : Nod B d w1 g v G ks :=
  ⟨h.nd.below hb, ⟨fun c hc => (h.kids.sub c hc).below hb, h.kids.rise, h.kids.foot⟩, fun k hk => ⟨(h.apart k hk).1, (h.apart k hk).2.1, (h.apart k hk).2.2.1, Nat.lt_of_lt_of_le (h.apart k hk).2.2.2 hb.size⟩⟩
theorem Nod.sub {B d : Nat} {w : World} {g : Nat} {v : Value} {G : Bl} {ks : List Kd} {lo : List Nat} (h : Nod B d w g v G ks) (hs : Sz ks) (hl : ks.head?.map Kd.k = some lo) : Sub B (d + 1) w (Fo g v G) g lo (ks.map Kd.pv) (ks.flatMap Kd.es) :=
  ⟨v, G, h.nd, cont_succ.2 ⟨ks, h.kids, hs, rfl, rfl, hl⟩, h.apart, rfl⟩
theorem Sub.nod {B d : Nat} {w : World} {F : Bl} {g : Nat} {lo : List Nat} {ps : List Pv} {es : List Ent} (h : Sub B (d + 1) w F g lo ps es) : ∃ v G ks, Nod B d w g v G ks ∧ Sz ks ∧ ps = ks.map Kd.pv ∧ es = ks.flatMap Kd.es ∧ ks.head?.map Kd.k = some lo ∧ F = Fo g v G := by
  obtain ⟨v, G, h⟩ := h
  obtain ⟨ks, hk, hs, hp, he, hl⟩ := cont_succ.1 h.con
  exact ⟨v, G, ks, ⟨by rw [← hp]; exact h.nd, hk, h.apart⟩, hs, hp, he, hl, h.foot⟩

/-- isLeaf, of a tree -/
theorem isleaf_sub0 {B : Nat} {w : World} {F : Bl} {g : Nat} {lo : List Nat} {ps : List Pv} {es : List Ent} (h : Sub B 0 w F g lo ps es) (hn : ps.length ≤ 4294967296) :
    Calls Try.prog 35 #[.pointer (some ⟨g, 0, none⟩)] w fun e w' => e = .returned (.bool true) ∧ w = w' := by
  obtain ⟨v, G, h⟩ := h
  cases ps with
  | nil => exact isleaf_nil B w g v h.nd
  | cons p r =>
    have := isleaf_cons B w g v p r h.nd (by simp at hn; omega)
    rw [h.con.2.1 p (List.mem_cons_self ..)] at this
    exact this
theorem isleaf_nod {B d : Nat} {w : World} {g : Nat} {v : Value} {G : Bl} {ks : List Kd} (h : Nod B d w g v G ks) (hne : ks ≠ []) (hn : ks.length ≤ 4294967296) :
    Calls Try.prog 35 #[.pointer (some ⟨g, 0, none⟩)] w fun e w' => e = .returned (.bool false) ∧ w = w' := by
  cases ks with
  | nil => exact absurd rfl hne
  | cons c r => exact isleaf_cons B w g v c.pv (r.map Kd.pv) h.nd (by simp at hn; simp; omega)

/-- what put answers, and leaves -/
def PutPost (B d : Nat) (w : World) (F : Bl) (g : Nat) (lo : List Nat) (ps : List Pv) (es : List Ent) (k : List Nat) (id : Int) (e : Ending) (w' : World) : Prop :=
  ((ePl es k).2 = true ∧ e = .returned (.bool false) ∧ Below w.heap.size w w') ∨
  ((ePl es k).2 = false ∧ e = .returned (.bool true) ∧ ∃ F' ps', Frm F w w' ∧ New w F F' ∧ Sub B d w' F' g lo ps' (ePut es k id) ∧ ps.length ≤ ps'.length ∧ ps'.length ≤ ps.length + 1)

set_option maxHeartbeats 4000000 in
set_option maxRecDepth 100000 in
theorem put_leaf (B : Nat) (w : World) (F : Bl) (g : Nat) (lo : List Nat) (ps : List Pv) (es : List Ent) (h : Sub B 0 w F g lo ps es) (hn : ps.length ≤ 2147483648) (s : ByteArray) (hlo : ¬ klt (sl s) lo) (id : Int) :
    Calls Try.prog 32 #[.pointer (some ⟨g, 0, none⟩), .string s, .int .i64 id] w (PutPost B 0 w F g lo ps es (sl s) id) := by
  have HLF := Lib.hid (isleaf_sub0 h (by omega))
  obtain ⟨v, G, h⟩ := h
  obtain ⟨hG, hnone, hes, hsrt, hall⟩ := h.con
  have HFD := Lib.hid (find_any B w g v ps h.nd (by rw [← hes]; exact hsrt) (by omega) s)
  rw [← hes] at HFD
  generalize hP : PutPost B 0 w F g lo ps es (sl s) id = P
  have hle := (ePl_le es (sl s)).1
  have hl : es.length = ps.length := by rw [hes]; unfold ents; rw [List.length_map]
  have hput : ePut es (sl s) id = if (ePl es (sl s)).2 then es else es.take (ePl es (sl s)).1 ++ [(sl s, id)] ++ es.drop (ePl es (sl s)).1 := rfl
  have hps : ePut es (sl s) id = ePut es (sl s) id := rfl
  have hsp := ePut_srt (k := sl s) (id := id) hsrt
  obtain ⟨T, hT⟩ : ∃ T, ePl es (sl s) = T := ⟨_, rfl⟩
  have HT := Lib.hid hT
  rw [hT] at HFD hput hle
  obtain ⟨i, t⟩ := T
  dsimp only at HFD hput hle
  have HP := Lib.hid hP
  have HN := Lib.hid h.nd
  have hbg : B ≤ w.heap.size := Nat.le_trans h.nd.bg (Nat.le_of_lt h.nd.lt)
  have lg := h.nd.lt
  have hne := h.nd.ne
  cases t with
  | true =>
    clear h hP hT hput hps hall hes hsrt hle hsp hne hG hnone
    go_enter Try.func32, Try.ntmps32
    go_wp2_with (first | (go_at_call 35; refine HLF.out.mono ?_; rintro e w1 ⟨rfl, rfl⟩) | (go_at_call 41; refine HFD.out.mono ?_; rintro e w1 ⟨rfl, b1⟩; have HB1 := Lib.hid b1; clear b1))
    rw [← HP.out]
    exact .inl ⟨by rw [HT.out], rfl, HB1.out⟩
  | false =>
    rw [if_neg (by simp)] at hput
    have hents : ePut es (sl s) id = ents (ps.take i ++ (s, id, none) :: ps.drop i) := by
      rw [hput, hes]; unfold ents; simp
    have HFIN := Lib.hid (show ∀ wx w6 v7, Below w.heap.size w wx → OwP w6 B v7 (ps.take i ++ (s, id, none) :: ps.drop i) → wx.grownBy w6 v.ownBlock → NewB wx v v7 → P (.returned (.bool true)) (w6.setCell ⟨g, 0, none⟩ v7) by
      intro wx w6 v7 hbx o7 g7 nb7
      have hg6 : w6.heap[g]? = some (.cells #[v] 69 (0, 0)) := by
        rw [g7.block g (Nat.lt_of_lt_of_le lg hbx.size) (fun e => hne e.symm), hbx.block g lg]
        exact HN.out.hd
      have n0 : NdAt B (w6.setCell ⟨g, 0, none⟩ v7) g v7 (ps.take i ++ (s, id, none) :: ps.drop i) :=
        ⟨node_put hg6, (Frm.set1 (F := fun k => k = g) w6 rfl 0 _).owP o7 (fun k hk e => own_ne o7 hg6 (by decide) (by rw [hk, e])), HN.out.bg⟩
      have hf : Frm F w (w6.setCell ⟨g, 0, none⟩ v7) := by
        refine Frm.setCell ((Frm.of_below hbx).trans (F1 := fun k => v.ownBlock = some k) (Frm.ofGrown g7 (fun k e => e)) ?_) (.inl ?_) 0 v7
        · intro k hk
          rw [h.foot]
          exact .inl (.inr (.inl hk))
        · rw [h.foot]; exact .inl rfl
      rw [← HP.out]
      refine .inr ⟨by rw [HT.out], rfl, Fo g v7 (fun _ => False), _, hf, ?_, ⟨v7, fun _ => False, n0, ⟨rfl, ?_, hents, hsp, ?_⟩, fun k hk => hk.elim, rfl⟩, ?_, ?_⟩
      · intro k hk
        rcases hk with hk | hk | hk
        · exact .inl (by rw [h.foot]; exact .inl hk)
        · rcases nb7 k hk with q | q
          · exact .inl (by rw [h.foot]; exact .inr (.inl q))
          · exact .inr (by have := hbx.size; omega)
        · exact hk.elim
      · intro p hp
        rcases List.mem_append.1 hp with hp | hp
        · exact hnone p (List.mem_of_mem_take hp)
        · rcases List.mem_cons.1 hp with rfl | hp
          · rfl
          · exact hnone p (List.mem_of_mem_drop hp)
      · intro e he
        rcases ePut_mem he with he | rfl
        · exact hall e he
        · exact hlo
      · rw [insert_row (by omega)]; omega
      · rw [insert_row (by omega)]; omega)
    have HI := Lib.hid (fun wx (hb : Below w.heap.size w wx) gv (hv : BoxP wx gv (s, id, none)) (hne : v.ownBlock ≠ some gv) => ins_any B wx (Nat.le_trans hbg hb.size) v ps (HN.out.below hb).own (by omega) i (by omega) (s, id, none) gv hv hne)
    have HV := Lib.hid (show ∀ k, v.ownBlock = some k → k < w.heap.size from fun k hk => (HN.out.own.lt k hk).2)
    obtain ⟨a, cap, rfl, -⟩ := h.nd.form
    have HNE := Lib.hid hne
    obtain ⟨c0, -⟩ := HN.out.cell
    clear h hP hT hput hps hall hes hsrt hle hsp hne hents hG hnone
    go_enter Try.func32, Try.ntmps32
    go_wp2_with (first | (go_at_call 35; refine HLF.out.mono ?_; rintro e w1 ⟨rfl, rfl⟩) | (go_at_call 41; refine HFD.out.mono ?_; rintro e w1 ⟨rfl, b1⟩; obtain ⟨c1, c1f⟩ := (HN.out.below b1).cell; have hsz1 := b1.size; have HB1 := Lib.hid b1; clear b1) | (go_at_call 42; refine (HI.out _ (HB1.out.alloc HB1.out.size _) w1.heap.size (heap_alloc_new w1 _) (fun e => by have := HV.out _ e; omega)).mono ?_; rintro e w6 ⟨v7, rfl, o7, g7, nb7⟩; obtain ⟨a7, m7, k7, rfl⟩ := o7.form'; obtain ⟨x6, x6f, -⟩ := head_grown (w := w1.alloc _) (g := g) (by rw [heap_alloc_old w1 _ (by omega)]; exact (HN.out.below HB1.out).hd) g7 HNE.out; have HX := Lib.hid (HFIN.out _ _ _ (HB1.out.alloc HB1.out.size _) o7 g7 nb7); clear o7 g7 nb7))
    all_goals exact HX.out

end Go.Proofs.Ytncganfjbalkgaa
