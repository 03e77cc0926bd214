/-
  The first entry of a tree that isn't ahead of a key: a contract over the translation.
  Conditions: the tree lies in memory.
-/
import Derived.Test.YtncganfjbalkgaaTr12
namespace Go.Proofs.Ytncganfjbalkgaa
open Go.RowKit Go.Joins Go.ChangeShapes Go.WideShapes
set_option linter.unusedVariables false
set_option linter.unusedSimpArgs false

def FromPost (w : World) (es : List Ent) (k : List Nat) (e : Ending) (w' : World) : Prop :=
  Below w.heap.size w w' ∧ ((∃ x s, es[(ePl es k).1]? = some x ∧ sl s = x.1 ∧ e = .returned (.tuple #[PtV s x.2, .bool true])) ∨ (es[(ePl es k).1]? = none ∧ e = .returned (.tuple #[PtV ⟨#[]⟩ 0, .bool false])))
/-- an empty part that has just been made -/
theorem zbox (w : World) : ∃ W1, w.alloc (.cells #[.string ⟨#[]⟩, .int .i64 0, .pointer none] 77) = W1 ∧ Below w.heap.size w W1 ∧ w.heap.size < W1.heap.size ∧ ∀ wx, Below W1.heap.size W1 wx →
    wx.cell? ⟨w.heap.size, 0, none⟩ = some (.string ⟨#[]⟩) ∧ wx.cell? ⟨w.heap.size, 1, none⟩ = some (.int .i64 0) ∧ wx.cell? ⟨w.heap.size, 2, none⟩ = some (.pointer none) ∧ wx.frozen? ⟨w.heap.size, 0, none⟩ = false ∧ wx.frozen? ⟨w.heap.size, 1, none⟩ = false ∧ wx.frozen? ⟨w.heap.size, 2, none⟩ = false := by
  refine ⟨_, rfl, (Below.refl _ _).alloc (Nat.le_refl _) _, by simp, fun wx hb => ?_⟩
  have hnew : wx.heap[w.heap.size]? = some (.cells #[.string ⟨#[]⟩, .int .i64 0, .pointer none] 77 (0, 0)) := by
    rw [hb.block _ (by simp)]; exact heap_alloc_new w _
  refine ⟨?_, ?_, ?_, unfrozen_of_block hnew 0, unfrozen_of_block hnew 1, unfrozen_of_block hnew 2⟩ <;> rw [cell_of_block hnew] <;> rfl

set_option maxHeartbeats 4000000 in
set_option maxRecDepth 100000 in
theorem from_leaf (B : Nat) (w : World) (F : Bl) (g : Nat) (lo : List Nat) (ps : List Pv) (es : List Ent) (h : Sub B 0 w F g lo ps es) (hn : ps.length ≤ 2147483648) (s : ByteArray) :
    Calls Try.prog 36 #[.pointer (some ⟨g, 0, none⟩), .string s] w (FromPost w es (sl s)) := by
  generalize hP : FromPost w es (sl s) = P
  have HP := Lib.hid hP
  obtain ⟨W1, hW1, hb, hz1, hzc⟩ := zbox w
  have h1 := h.below hb
  have HLF := Lib.hid (isleaf_sub0 h1 (by omega))
  obtain ⟨v, G, ss⟩ := h1
  obtain ⟨hG, hnone, hes, hsrt, hall⟩ := ss.con
  have HFD := Lib.hid (find_any B W1 g v ps ss.nd (by rw [← hes]; exact hsrt) (by omega) s)
  rw [← hes] at HFD
  have hle := (ePl_le es (sl s)).1
  have hl : es.length = ps.length := by rw [hes]; unfold ents; rw [List.length_map]
  obtain ⟨T, hT⟩ : ∃ T, ePl es (sl s) = T := ⟨_, rfl⟩
  rw [hT] at HFD hle
  obtain ⟨i, t⟩ := T
  dsimp only at HFD hle
  have HT := Lib.hid hT
  have HES := Lib.hid hes
  have HN := Lib.hid ss.nd
  have HNO := Lib.hid hnone
  obtain ⟨a, cap, rfl, -⟩ := ss.nd.form
  obtain ⟨z, hz⟩ : ∃ z, w.heap.size = z := ⟨_, rfl⟩
  rw [hz] at hzc hz1
  have HZ := Lib.hid hz
  have HZC := Lib.hid hzc
  have HB := Lib.hid hb
  have HW := Lib.hid hW1
  obtain ⟨n, en⟩ : ∃ n, ps.length = n := ⟨_, rfl⟩
  have EN := Lib.hid en
  rw [hl, en] at hle
  by_cases c : i = n
  · subst c
    have HOUT := Lib.hid (show ∀ wx, Below z w wx → P (.returned (.tuple #[PtV ⟨#[]⟩ 0, .bool false])) wx by
      intro wx hbx
      rw [← HP.out]
      exact ⟨by rw [HZ.out]; exact hbx, .inr ⟨by rw [HT.out]; exact List.getElem?_eq_none (by omega), rfl⟩⟩)
    have HC := Lib.hid (show ∀ wx, Below W1.heap.size W1 wx → wx.cell? ⟨g, 0, none⟩ = some (.slice a i cap) from fun wx hb => by have := (HN.out.below hb).cell.1; rw [EN.out] at this; exact this)
    clear hP hb hzc ss hG hnone hes hsrt hall hl hT hz hW1 en h hle
    go_enter Try.func36, Try.ntmps36
    go_upto_region 1 with fail
    rw [HW.out, HZ.out]
    go_wp2_with (first | (go_at_call 35; refine HLF.out.mono ?_; rintro e w1 ⟨rfl, rfl⟩) | (go_at_call 41; refine HFD.out.mono ?_; rintro e w2 ⟨rfl, b2⟩; have z0 := HC.out _ b2; obtain ⟨c0, c1, c2, f0, f1, f2⟩ := HZC.out _ b2; have HB2 := Lib.hid b2; clear b2))
    refine bodyPost_ret (v := .tuple #[PtV ⟨#[]⟩ 0, .bool false]) (by simp [results, Try.results36, go_sem, PtV, c0, c1, c2, f0, f1, f2]) rfl (HOUT.out _ ?_)
    refine ((Below.setCell ?_ (Nat.le_refl z) _).setCell (Nat.le_refl z) _).setCell (Nat.le_refl z) _
    have hq := HZ.out
    subst hq
    exact HB.out.trans (HB2.out.mono (by omega))
  · have hi : i < n := by omega
    have hp : ps[i]? = some (ps[i]'(by rw [EN.out]; exact hi)) := List.getElem?_eq_getElem _
    generalize ps[i]'(by rw [EN.out]; exact hi) = p at *
    obtain ⟨pa, pb, pc⟩ := p
    have hpn : pc = none := hnone _ (List.mem_of_getElem? hp)
    subst hpn
    have HOUT := Lib.hid (show ∀ wx, Below z w wx → P (.returned (.tuple #[PtV pa pb, .bool true])) wx by
      intro wx hbx
      rw [← HP.out]
      refine ⟨by rw [HZ.out]; exact hbx, .inl ⟨(sl pa, pb), pa, ?_, rfl, rfl⟩⟩
      rw [HT.out, HES.out]
      unfold ents
      rw [List.getElem?_map, hp]; rfl)
    obtain ⟨gb, cap', e5, -⟩ := HN.out.own.at hp
    injection e5 with e5 e6 e7
    subst e5
    clear e6 e7
    have HC := Lib.hid (show ∀ wx, Below W1.heap.size W1 wx → wx.cell? ⟨g, 0, none⟩ = some (.slice (some ⟨gb, 0, none⟩) n cap) ∧ wx.cell? ⟨gb, i * 3, none⟩ = some (.string pa) ∧ wx.cell? ⟨gb, i * 3 + 1, none⟩ = some (.int .i64 pb) ∧ wx.cell? ⟨gb, i * 3 + 2, none⟩ = some (.pointer none) from fun wx hb => by
      have h1 := (HN.out.below hb).cell.1
      rw [EN.out] at h1
      obtain ⟨gb', cap'', e5, -, -, d0, d1, d2, -⟩ := (HN.out.below hb).own.at hp
      injection e5 with e5 e6 e7
      injection e5 with e5
      injection e5 with e5
      subst e5
      exact ⟨h1, d0, d1, d2⟩)
    have hi1 : (i : Int) < (n : Int) := by omega
    have hi2 : ((i : Int) == (n : Int)) = false := by simp; omega
    have hi3 : (i == n) = false := by simp; omega
    clear hP hb hzc ss hG hnone hes hsrt hall hl hT hz hW1 en h hle hp
    go_enter Try.func36, Try.ntmps36
    go_upto_region 1 with fail
    rw [HW.out, HZ.out]
    go_wp2_with (first | (go_at_call 35; refine HLF.out.mono ?_; rintro e w1 ⟨rfl, rfl⟩) | (go_at_call 41; refine HFD.out.mono ?_; rintro e w2 ⟨rfl, b2⟩; obtain ⟨z0, z3, z4, z5⟩ := HC.out _ b2; obtain ⟨c0, c1, c2, f0, f1, f2⟩ := HZC.out _ b2; have HB2 := Lib.hid b2; clear b2))
    refine bodyPost_ret (v := .tuple #[PtV pa pb, .bool true]) (by simp [results, Try.results36, go_sem, PtV, c0, c1, c2, f0, f1, f2]) rfl (HOUT.out _ ?_)
    refine ((Below.setCell ?_ (Nat.le_refl z) _).setCell (Nat.le_refl z) _).setCell (Nat.le_refl z) _
    have hq := HZ.out
    subst hq
    exact HB.out.trans (HB2.out.mono (by omega))

/-- the place of a key that is behind all of a list's beginning -/
theorem ePl_all {l : List Ent} {k : List Nat} (h : l[(ePl l k).1]? = none) : (ePl l k).1 = l.length ∧ ∀ e ∈ l, klt e.1 k := by
  have hle := (ePl_le l k).1
  have hge : l.length ≤ (ePl l k).1 := by simpa using h
  have e : (ePl l k).1 = l.length := by omega
  have := ePl_take (l := l) (k := k)
  rw [e, List.take_length] at this
  exact ⟨e, this⟩

set_option maxHeartbeats 4000000 in
set_option maxRecDepth 100000 in
theorem from_node (B d : Nat) (s : ByteArray) (IH : ∀ (w : World) (F : Bl) (g : Nat) (lo : List Nat) (ps : List Pv) (es : List Ent), Sub B d w F g lo ps es → ps.length ≤ 8 → ¬ klt (sl s) lo →
      Calls Try.prog 36 #[.pointer (some ⟨g, 0, none⟩), .string s] w (FromPost w es (sl s)))
    (w : World) (F : Bl) (g : Nat) (lo : List Nat) (ps : List Pv) (es : List Ent) (h : Sub B (d + 1) w F g lo ps es) (hn : ps.length ≤ 8) (hlo : ¬ klt (sl s) lo) :
    Calls Try.prog 36 #[.pointer (some ⟨g, 0, none⟩), .string s] w (FromPost w es (sl s)) := by
  generalize hP : FromPost w es (sl s) = P
  have HP := Lib.hid hP
  obtain ⟨W1, hW1, hb, hz1, hzc⟩ := zbox w
  have h1 := h.below hb
  obtain ⟨v, G, ks, nod, hsz, rfl, rfl, hl, -⟩ := h1.nod
  obtain ⟨A, c, C, rfl, hch, hkc, hkC, hA, hC⟩ := nod.at hl hlo
  have hmid := ePl_mid (m := c.es) hA hC
  rw [← flat_mid] at hmid
  have hcm : c ∈ A ++ c :: C := List.mem_append_right _ (List.mem_cons_self ..)
  have hlen : A.length + 1 + C.length ≤ 8 := by simp at hn; omega
  have HLF := Lib.hid (isleaf_nod nod (by simp) (by simp; omega))
  have HCH := Lib.hid (child_any B W1 g v _ nod.nd nod.kids.srt (by simp; omega) s)
  rw [hch] at HCH
  have HIH := Lib.hid (fun w1 (hb : Below W1.heap.size W1 w1) => IH w1 c.F c.g c.k c.ps c.es ((nod.kids.sub c hcm).below hb) (hsz c hcm).2 hkc)
  have hpv : ((A ++ c :: C).map Kd.pv)[A.length]? = some c.pv := by rw [List.getElem?_map, List.getElem?_append_right (Nat.le_refl _), Nat.sub_self]; rfl
  have ln : ((A ++ c :: C).map Kd.pv).length = A.length + 1 + C.length := by simp; omega
  obtain ⟨gb, cap, rfl, k1, -⟩ := nod.nd.own.at hpv
  have HM := Lib.hid hmid
  have HND := Lib.hid nod
  have HSZ := Lib.hid hsz
  obtain ⟨a, ea⟩ : ∃ n, A.length = n := ⟨_, rfl⟩
  obtain ⟨b, eb⟩ : ∃ n, C.length = n := ⟨_, rfl⟩
  have HA := Lib.hid ea
  have HB9 := Lib.hid eb
  have HAT := Lib.hid (show ∀ wx, Below W1.heap.size W1 wx → wx.cell? ⟨g, 0, none⟩ = some (.slice (some ⟨gb, 0, none⟩) (a + 1 + b) cap) ∧ wx.cell? ⟨gb, a * 3 + 2, none⟩ = some (.pointer (some ⟨c.g, 0, none⟩)) by
    intro wx hbx
    have c0 := (nod.nd.below hbx).cell.1
    rw [ln, ea, eb] at c0
    obtain ⟨gb', cap', e, -, -, -, -, d1, -⟩ := (nod.nd.below hbx).own.at hpv
    injection e with e
    injection e with e
    injection e with e
    subst e
    rw [ea] at d1
    exact ⟨c0, d1⟩)
  obtain ⟨z, hz⟩ : ∃ z, w.heap.size = z := ⟨_, rfl⟩
  rw [hz] at hzc hz1
  have HZ := Lib.hid hz
  have HZC := Lib.hid hzc
  have HB := Lib.hid hb
  have HW := Lib.hid hW1
  have lg : g < W1.heap.size := nod.nd.lt
  have lgb : gb < W1.heap.size := (nod.nd.own.lt gb rfl).2
  have hk0 : (a : Int) < (a : Int) + 1 + (b : Int) := by omega
  have hw1 : IntKind.i64.wrap ((a : Int) + 1) = (a : Int) + 1 := IntWalk.i64_in _ (by rw [ea] at hlen; omega)
  rw [ea] at HCH hlen
  rw [eb] at hlen
  -- what comes behind
  have HOK := Lib.hid (show ∀ wx x u, c.es[(ePl c.es (sl s)).1]? = some x → sl u = x.1 → Below z w wx → P (.returned (.tuple #[PtV u x.2, .bool true])) wx by
    intro wx x u hx hu hbx
    rw [← HP.out]
    refine ⟨by rw [HZ.out]; exact hbx, .inl ⟨x, u, ?_, hu, rfl⟩⟩
    rw [HM.out, flat_mid]
    dsimp only
    have hlt := (List.getElem?_eq_some_iff.1 hx).1
    rw [List.append_assoc, List.getElem?_append_right (by omega), Nat.add_sub_cancel_left, List.getElem?_append_left hlt]
    exact hx)
  have HNO := Lib.hid (show c.es[(ePl c.es (sl s)).1]? = none → ∀ j, ((A ++ c :: C).flatMap Kd.es)[(ePl ((A ++ c :: C).flatMap Kd.es) (sl s)).1 + j]? = (C.flatMap Kd.es)[j]? by
    intro hx j
    have := (ePl_all hx).1
    rw [HM.out, flat_mid]
    dsimp only
    rw [this, List.getElem?_append_right (by rw [List.length_append]; omega)]
    congr 1
    rw [List.length_append]; omega)
  clear hP hmid nod hsz hl hkC ln ea eb hpv h hch hA hC hn hcm k1 hzc hb hW1 hz
  have fin : ∀ wx (v' : Value), Below W1.heap.size W1 wx → Below z w wx := by
    intro wx v' hbx
    have hq := HZ.out
    subst hq
    exact HB.out.trans (hbx.mono (by omega))
  have FIN := Lib.hid fin
  clear fin
  have HI2 := Lib.hid (show ∀ w1, Below W1.heap.size W1 w1 → Calls Try.prog 36 #[.pointer (some ⟨c.g, 0, none⟩), .string s] w1 fun e w3 => Below w1.heap.size w1 w3 ∧ ∃ (u : ByteArray) (n : Int) (t : Bool), e = .returned (.tuple #[.agg #[.string u, .int .i64 n, .pointer none], .bool t]) ∧ ((t = true ∧ ∃ x, c.es[(ePl c.es (sl s)).1]? = some x ∧ sl u = x.1 ∧ n = x.2) ∨ (t = false ∧ c.es[(ePl c.es (sl s)).1]? = none)) by
    intro w1 hb1
    refine (HIH.out w1 hb1).mono ?_
    rintro e w3 ⟨b3, hx⟩
    refine ⟨b3, ?_⟩
    rcases hx with ⟨x, u, q1, q2, rfl⟩ | ⟨q1, rfl⟩
    · exact ⟨u, x.2, true, rfl, .inl ⟨rfl, x, q1, q2, rfl⟩⟩
    · exact ⟨_, _, false, rfl, .inr ⟨rfl, q1⟩⟩)
  go_enter Try.func36, Try.ntmps36
  go_upto_region 1 with fail
  rw [HW.out, HZ.out]
  go_upto_region 8 with (first | (go_at_call 35; refine HLF.out.mono ?_; rintro e w1 ⟨rfl, rfl⟩) | (go_at_call 43; refine HCH.out.mono ?_; rintro e w2 ⟨rfl, b2⟩; obtain ⟨z0, z3⟩ := HAT.out _ b2; have HB2 := Lib.hid b2; clear b2) | (go_at_call 36; refine (HI2.out _ HB2.out).mono ?_; rintro e w3 ⟨b3, u, n, t, rfl, hx2⟩; have HX := Lib.hid hx2; have b4 := stepB HB2.out b3; obtain ⟨z0, z3⟩ := HAT.out _ b4; obtain ⟨c0, c1, c2, f0, f1, f2⟩ := HZC.out _ b4; have HB4 := Lib.hid b4; have hs4 := b4.size; clear hx2 b3 b4))
  have lg3 : g < w3.heap.size := by omega
  have lgb3 : gb < w3.heap.size := by omega
  have lz3 : z < w3.heap.size := by omega
  rcases HX.out with ⟨rfl, x, q1, q2, rfl⟩ | ⟨rfl, q1⟩
  · have HQ := Lib.hid (And.intro q1 q2)
    clear q1 q2 HX
    go_wp2_with fail
    refine bodyPost_ret (v := .tuple #[PtV u x.2, .bool true]) (by simp [results, Try.results36, go_sem, PtV, c0, c1, c2, f0, f1, f2, lz3]) rfl (HOK.out _ x u HQ.out.1 HQ.out.2 ?_)
    (refine (((Below.setCell ?_ (Nat.le_refl z) _).setCell (Nat.le_refl z) _).setCell (Nat.le_refl z) _).alloc (by simp [World.setCell]; omega) _; exact FIN.out _ (.int .i64 0) HB4.out)
  · have HQ := Lib.hid q1
    clear q1 HX
    by_cases hb0 : b = 0
    · subst hb0
      go_wp2_with fail
      refine bodyPost_ret (v := .tuple #[PtV ⟨#[]⟩ 0, .bool false]) (by simp [results, Try.results36, go_sem, PtV, c0, c1, c2, f0, f1, f2, lz3]) rfl ?_
      rw [← HP.out]
      refine ⟨?_, .inr ⟨?_, rfl⟩⟩
      · rw [HZ.out]
        (refine (((Below.setCell ?_ (Nat.le_refl z) _).setCell (Nat.le_refl z) _).setCell (Nat.le_refl z) _).alloc (by simp [World.setCell]; omega) _; exact FIN.out _ (.int .i64 0) HB4.out)
      · have := HNO.out HQ.out 0
        rw [Nat.add_zero] at this
        rw [this, List.eq_nil_of_length_eq_zero HB9.out]
        rfl
    · obtain ⟨c', C', eC⟩ : ∃ c' C', C = c' :: C' := by
        cases C with
        | nil => exact absurd HB9.out.symm hb0
        | cons c' C' => exact ⟨c', C', rfl⟩
      have hm' : c' ∈ A ++ c :: C := List.mem_append_right _ (List.mem_cons_of_mem _ (by rw [eC]; exact List.mem_cons_self ..))
      have hsub := HND.out.kids.sub c' hm'
      have hcs := HSZ.out c' hm'
      obtain ⟨x, hx⟩ : ∃ x, c'.es.head? = some x := by
        obtain ⟨vv, GG, ss⟩ := hsub
        have hne := ss.con.ne (by intro e; rw [e] at hcs; simp at hcs)
        cases he : c'.es with
        | nil => exact absurd he hne
        | cons e t => exact ⟨e, rfl⟩
      have HFI := Lib.hid (fun wx (hbx : Below W1.heap.size W1 wx) => first_any B d wx c'.F c'.g c'.k c'.ps c'.es (hsub.below hbx) hcs.2 x hx)
      have HAT2 := Lib.hid (show ∀ wx, Below W1.heap.size W1 wx → wx.cell? ⟨gb, (a + 1) * 3 + 2, none⟩ = some (.pointer (some ⟨c'.g, 0, none⟩)) by
        intro wx hbx
        have hpv : ((A ++ c :: C).map Kd.pv)[a + 1]? = some c'.pv := by rw [eC, ← HA.out, List.getElem?_map, List.getElem?_append_right (by omega), show A.length + 1 - A.length = 1 by omega]; rfl
        obtain ⟨gb', cap', e, -, -, -, -, d1, -⟩ := (HND.out.nd.below hbx).own.at hpv
        injection e with e
        injection e with e
        injection e with e
        subst e
        exact d1)
      have HXX := Lib.hid (show ((A ++ c :: C).flatMap Kd.es)[(ePl ((A ++ c :: C).flatMap Kd.es) (sl s)).1]? = some x by
        have := HNO.out HQ.out 0
        rw [Nat.add_zero] at this
        rw [this, eC, List.flatMap_cons]
        cases he : c'.es with
        | nil => rw [he] at hx; cases hx
        | cons e t => rw [he] at hx; exact hx)
      have y3 := HAT2.out _ HB4.out
      have hk1 : (a : Int) + 1 < (a : Int) + 1 + (b : Int) := by omega
      have hk2 : ((a : Int) + 1 == (a : Int) + 1 + (b : Int)) = false := by simp; omega
      have hk3 : ((a : Int) + 1).toNat = a + 1 := by omega
      have hk4 : (0 : Int) ≤ (a : Int) + 1 := by omega
      have hk5 : ¬ ((a : Int) + 1 = (a : Int) + 1 + (b : Int)) := by omega
      clear hm' hsub hcs hx
      go_wp2_with (go_at_call 47; refine (HFI.out _ (HB4.out.alloc HB4.out.size _)).mono ?_; rintro e w5 ⟨u', rfl, hu', b5⟩; have HU := Lib.hid hu'; have b6 := stepB (HB4.out.alloc HB4.out.size _) b5; obtain ⟨c0, c1, c2, f0, f1, f2⟩ := HZC.out _ b6; have HB6 := Lib.hid b6; unfold PtV; clear hu' b5 b6)
      refine bodyPost_ret (v := .tuple #[PtV u' x.2, .bool true]) (by simp [results, Try.results36, go_sem, PtV, c0, c1, c2, f0, f1, f2]) rfl ?_
      rw [← HP.out]
      refine ⟨?_, .inl ⟨x, u', HXX.out, HU.out, rfl⟩⟩
      rw [HZ.out]
      (refine ((Below.setCell ?_ (Nat.le_refl z) _).setCell (Nat.le_refl z) _).setCell (Nat.le_refl z) _; exact FIN.out _ (.int .i64 0) HB6.out)

theorem from_d (B : Nat) (s : ByteArray) : ∀ (d : Nat) (w : World) (F : Bl) (g : Nat) (lo : List Nat) (ps : List Pv) (es : List Ent), Sub B d w F g lo ps es → ps.length ≤ 8 → ¬ klt (sl s) lo →
    Calls Try.prog 36 #[.pointer (some ⟨g, 0, none⟩), .string s] w (FromPost w es (sl s))
  | 0, w, F, g, lo, ps, es, h, hn, hlo => from_leaf B w F g lo ps es h (by omega) s
  | d + 1, w, F, g, lo, ps, es, h, hn, hlo => from_node B d s (from_d B s d) w F g lo ps es h hn hlo

end Go.Proofs.Ytncganfjbalkgaa
