/-
  Texts of mine put together, in build order.
  Conditions: as each declaration says.
-/
import Derived.Deep.RegionWith
import Derived.Test.YtelfinhpjokmdaaGreatDoorZn8
namespace Go.Proofs.YtelfinhpjokmdaaGreatDoor
set_option maxRecDepth 100000
open Go.RowKit Go.Joins Go.ChangeShapes Go.WideShapes
open Go.MapKept
set_option linter.unusedVariables false
set_option linter.unnecessarySimpa false
set_option linter.unusedSimpArgs false

theorem OwR.reg {P : Program} {α : Type} {K : RK P α} {ops : Array Oper} {o : Oper} {a : Act} {w : World} {K' : Act → World → Prop} {Q : Exit → Act → World → Prop} {E : Prop} (hgd : o.guard = none) (s x : Operand)
    (ho : o.op = .call { callee := .builtin .append, args := #[s, x], argTypes := #[K.ts, K.ts] })
    (B : Nat) (v : Value) (l : List α) (hs : a.eval s = v) (hown : OwR K w B v l) (hB : B ≤ w.heap.size) (ad : Addr) (m c : Nat) (rs : List α) (hm : rs.length = m) (hx : a.eval x = .slice (some ad) m c)
    (hnews : ∀ j u, (K.cells rs)[j]? = some u → w.cell? (ad.add j) = some u) (hsz : l.length + m ≤ 4294967297)
    (h : ∀ v' w', OwR K w' B v' (l ++ rs) → w.grownBy w' v.ownBlock → NewR w v v' → K' (a.put o.dst v') w') : if Region.wanted o (yielded ops a.tmps) = true then Oper.wp P o a w K' Q else E := by
  have hw : Region.wanted o (yielded ops a.tmps) = true := by simp [Region.wanted, hgd]
  rw [if_pos hw]
  obtain ⟨v', w', hr, h1, h2, h3⟩ := OwR.append w B v l hown hB ad m c rs hm hnews hsz o.type
  unfold Oper.wp
  simp [execOp, ho, resolve, invoke, builtin, hs, hx, hr, Result.andThen]
  exact h v' w' h1 h2 h3
section
variable {w w' : World} {B b : Nat} {vh vw vh' vw' : Value} {H H' : List Lv} {W W' : List Wv}
/-- the list of locks grew, and is stored -/
theorem RfM.pushH (h : RfM w B b vh vw H W) (ho : OwR KL w' B vh' H') (hg : w.grownBy w' vh.ownBlock) : w'.cell? ⟨b, 0, none⟩ = some vh ∧ w'.frozen? ⟨b, 0, none⟩ = false ∧ RfM (w'.setCell ⟨b, 0, none⟩ vh') B b vh' vw H' W := by
  have hf : Frm (fun k => vh.ownBlock = some k) w w' := Frm.grown (F := fun k => vh.ownBlock = some k) (Frm.refl _ w) hg (fun k hk => .inl hk)
  have hd := (hf.heap h.lt h.nh).trans h.hd
  have hw : OwR KW w' B vw W := h.ow.step hf (fun k e c => h.nn c e)
  have hs : Frm (fun k => k = b) w' (w'.setCell ⟨b, 0, none⟩ vh') := Frm.set1 (F := fun k => k = b) w' rfl _ _
  have hn : vh'.ownBlock ≠ some b := fun e => by
    obtain ⟨-, -, cur, e2⟩ := ho.lt e
    rw [hd] at e2
    injection e2 with e2
    injection e2 with _ e2
    exact absurd e2 (by decide)
  refine ⟨by rw [cell_of_block hd]; rfl, unfrozen_of_block hd 0, ?_, ho.step hs (fun k e c => hn (by rw [e, c])), hw.step hs (fun k e c => h.nw (by rw [e, c])), h.lo⟩
  rw [heap_setCell_same w' b 0 _ _ _ hd]
  rfl
/-- a lock of the list turned -/
theorem RfM.turnH (h : RfM w B b vh vw H W) {g n cap : Nat} (hv : vh = .slice (some ⟨g, 0, none⟩) n cap) (ho : OwR KL w' B vh H') (hf : Frm (fun k => k = g) w w') : RfM w' B b vh vw H' W := by
  have hg : vh.ownBlock = some g := by rw [hv]; rfl
  refine ⟨(hf.heap h.lt (fun c => h.nh (by rw [hg, c]))).trans h.hd, ho, h.ow.step hf (fun k e c => h.nn hg (by rw [e, c])), h.lo⟩
end
theorem clb {w w0 w1 : World} {Q : Prop} (h : Below w.heap.size w w0 ∧ Q) (hb : Below w0.heap.size w0 w1) : Below w.heap.size w w1 := h.1.trans (hb.mono h.1.size)
theorem frm3 (w : World) (g : Nat) (a b c : Nat) (x y z : Value) : Frm (fun k => k = g) w (((w.setCell ⟨g, a, none⟩ x).setCell ⟨g, b, none⟩ y).setCell ⟨g, c, none⟩ z) :=
  ((Frm.set1 (F := fun k => k = g) w rfl _ _).trans (Frm.set1 (F := fun k => k = g) _ rfl _ _) (New.refl _ _)).trans (Frm.set1 (F := fun k => k = g) _ rfl _ _) (New.refl _ _)
/-- one step down -/
theorem bub {α : Type} {H : List α} {l y : α} {k : Nat} (hy : H[k]? = some y) : (((H.take (k + 1) ++ l :: H.drop (k + 1)).set (k + 1) y).set k l) = H.take k ++ l :: H.drop k := by
  have hk : k < H.length := (List.getElem?_eq_some_iff.1 hy).1
  have h1 : H.take (k + 1) = H.take k ++ [y] := by rw [List.take_add_one, hy]; rfl
  have h2 : H.drop k = y :: H.drop (k + 1) := drop_at hy
  have hl : (H.take k).length = k := by rw [List.length_take]; omega
  rw [h1, h2]
  apply List.ext_getElem?
  intro j
  simp only [List.getElem?_set, List.length_set, List.length_append, List.length_cons, List.length_nil, List.append_assoc, List.cons_append, List.nil_append, hl]
  by_cases c1 : k = j
  · subst c1
    rw [if_pos rfl, if_pos (by omega), List.getElem?_append_right (by omega), hl, Nat.sub_self]
    rfl
  · rw [if_neg c1]
    by_cases c2 : k + 1 = j
    · subst c2
      rw [if_pos rfl, if_pos (by omega), List.getElem?_append_right (by omega), hl]
      rw [show k + 1 - k = 1 by omega]
      rfl
    · rw [if_neg c2]
      by_cases c3 : j < k
      · rw [List.getElem?_append_left (by omega), List.getElem?_append_left (by omega)]
      · rw [List.getElem?_append_right (by omega), List.getElem?_append_right (by omega), hl]
        obtain ⟨i, rfl⟩ : ∃ i, j = k + 2 + i := ⟨j - (k + 2), by omega⟩
        rw [show k + 2 + i - k = i + 1 + 1 by omega]
        rfl
theorem bub_at {α : Type} {H : List α} {l : α} {k : Nat} (hk : k ≤ H.length) : (H.take k ++ l :: H.drop k)[k]? = some l := by
  have hl : (H.take k).length = k := by rw [List.length_take]; omega
  rw [List.getElem?_append_right (by omega), hl, Nat.sub_self]
  rfl
theorem bub_pre {α : Type} {H : List α} {l y : α} {k : Nat} (hy : H[k]? = some y) : (H.take (k + 1) ++ l :: H.drop (k + 1))[k]? = some y := by
  have hk : k < H.length := (List.getElem?_eq_some_iff.1 hy).1
  rw [List.getElem?_append_left (by rw [List.length_take]; omega), List.getElem?_take, if_pos (by omega)]
  exact hy
theorem bub_len {α : Type} (H : List α) (l : α) (k : Nat) : (H.take k ++ l :: H.drop k).length = H.length + 1 := by
  rw [List.length_append, List.length_cons, List.length_take, List.length_drop]; omega
/-- where it comes to rest -/
theorem gv_rest {H : List Lv} {l : Lv} {k : Nat} (hkl : k ≤ H.length) (hs : SrtL ordT H) (hn : ∀ x ∈ H, ¬ keyE l x) (hd : ∀ x ∈ H.drop k, ahd ordT l x) (hk : ∀ y, k ≠ 0 → H[k - 1]? = some y → ¬ ahd ordT l y) : gv ordT l H = H.take k ++ l :: H.drop k := by
  refine gv_at ordT l H k (fun x hx => ⟨hn x (List.mem_of_mem_take hx), fun c => ?_⟩) (fun x hx => ⟨hn x (List.mem_of_mem_drop hx), hd x hx⟩)
  obtain ⟨i, hi⟩ := List.getElem?_of_mem hx
  rw [List.getElem?_take] at hi
  split at hi
  · rename_i hik
    have hil := (List.getElem?_eq_some_iff.1 hi).1
    by_cases e : i = k - 1
    · exact hk x (by omega) (by rw [← e]; exact hi) c
    · have hkl2 : k - 1 < H.length := by omega
      have hy : H[k - 1]? = some H[k - 1] := List.getElem?_eq_getElem hkl2
      have hp := List.pairwise_iff_getElem.1 hs i (k - 1) hil hkl2 (by omega)
      rw [List.getElem?_eq_getElem hil] at hi
      injection hi with hi
      rw [hi] at hp
      exact hk _ (by omega) hy (ahd_tr ordT c hp)
  · cases hi

set_option maxHeartbeats 16000000 in
theorem rgive_any {w : World} {B b : Nat} {vh vw : Value} {H : List Lv} {W : List Wv} (h : RfM w B b vh vw H W) (hs : SrtL ordT H) (hN : H.length ≤ 2000000) (hB : B ≤ w.heap.size) (l : Lv) :
    Calls Tryz.prog 29 #[.pointer (some ⟨b, 0, none⟩), encL l] w fun e w' => e = .returned (.tuple #[]) ∧ WentD w w' B b vh vw (gv ordT l H) W := by
  unfold encL
  obtain ⟨ga, gc, hge, hgc, hgm⟩ := h.oh.sl
  obtain ⟨n, hn⟩ : ∃ n, H.length = n := ⟨_, rfl⟩
  rw [hn] at hge hgc hN
  subst hge
  have HN := Lib.hid hn
  generalize hP : (fun (e : Ending) (w' : World) => e = .returned (.tuple #[]) ∧ WentD w w' B b (.slice ga n gc) vw (gv ordT l H) W) = P
  have HP := Lib.hid hP
  obtain ⟨W1, hW1⟩ : ∃ W1, w.alloc (.cells #[.int .i64 l.txn, .string ⟨l.res.toArray⟩, .int .i64 l.mode] 42) = W1 := ⟨_, rfl⟩
  have hb1 : Below w.heap.size w W1 := by rw [← hW1]; exact (Below.refl _ _).alloc (Nat.le_refl _) _
  obtain ⟨p, hp⟩ : ∃ p, w.heap.size = p := ⟨_, rfl⟩
  have HX := Lib.hid (show BxL W1 p l by rw [← hW1, ← hp]; exact bxL_new w l)
  have HM := Lib.hid (h.below hb1)
  have HB1 := Lib.hid hb1
  have HS := Lib.hid hs
  have HBL := Lib.hid (fun (k : Nat) (hk : blkD b (.slice ga n gc) vw k) => (h.blk hk).2)
  clear h hn hgc hgm hP hb1 hs
  go_enter Tryz.func29, Tryz.ntmps29
  go_upto_region 1 with fail
  try rw [hW1]
  try rw [hp]
  clear hW1
  go_wp2_with fail
  go_loopw [4] (fun i wx => ∃ j : Nat, j ≤ n ∧ i = .int .i64 j ∧ Hid (Below W1.heap.size W1 wx) ∧ Hid (∀ x ∈ H.take j, ¬ keyE l x)) (fun i _ => n - (intOf i).toNat)
  case atStart => exact ⟨0, Nat.zero_le _, rfl, Lib.hid (Below.refl _ _), Lib.hid (fun x hx => by simp at hx)⟩
  case round =>
    obtain ⟨j, hj, rfl, HB, HA⟩ := hrel
    have hM := HM.out.below HB.out
    have HMR := Lib.hid hM
    obtain ⟨c0, -, cf0⟩ := hM.cells
    obtain ⟨p0, p1, p2⟩ := (HX.out.below HB.out).cells
    have HBW := Lib.hid (fun (q : Nat) => show Below W1.heap.size W1 (wr.drewN q) from HB.out.trans ⟨rfl, rfl, rfl, Nat.le_refl _, fun _ _ => rfl⟩)
    by_cases cj : j < n
    · have cj1 : (j : Int) < (n : Int) := by omega
      obtain ⟨x, hx⟩ : ∃ x, H[j]? = some x := ⟨_, List.getElem?_eq_getElem (by rw [HN.out]; exact cj)⟩
      obtain ⟨g, rfl, -, -, hgl⟩ := hM.oh.blk (i := j) (by rw [HN.out]; exact cj)
      obtain ⟨x0, x1, x2, xf⟩ := kl_at hM.oh hx
      have hjw : IntKind.i64.wrap ((j : Int) + 1) = ((j + 1 : Nat) : Int) := by rw [IntWalk.i64_in _ (by omega)]; omega
      have HXX := Lib.hid hx
      have HXF := Lib.hid xf
      clear hx hM cf0 xf
      go_upto_region 4 with fail
      by_cases e1 : x.txn = l.txn
      · have HE1 := Lib.hid e1
        rw [e1] at x0
        by_cases e2 : x.res = l.res
        · have HE2 := Lib.hid e2
          rw [e2] at x1
          clear e1 e2
          have HF := Lib.hid (fun (q : Nat) => show P (.returned (.tuple #[])) ((wr.drewN q).setCell ⟨g, j * 3 + 2, none⟩ (.int .i64 l.mode)) by
            rw [← HP.out]
            have hm1 := HM.out.below (HBW.out q)
            have ho := kl_mode hm1.oh HXX.out l.mode
            have hl : (⟨x.txn, x.res, l.mode⟩ : Lv) = l := by rw [HE1.out, HE2.out]
            rw [hl] at ho
            have hf : Frm (fun k => k = g) (wr.drewN q) ((wr.drewN q).setCell ⟨g, j * 3 + 2, none⟩ (.int .i64 l.mode)) := Frm.set1 (F := fun k => k = g) _ rfl _ _
            have hm2 := hm1.turnH rfl ho hf
            refine ⟨rfl, .slice (some ⟨g, 0, none⟩) n gc, vw, ?_, ?_, fun k hk => .inl hk⟩
            · rw [gv_same ordT l H j x HS.out HXX.out ⟨HE1.out.symm, HE2.out.symm⟩]; exact hm2
            · exact (((Frm.of_below (F := blkD b (.slice (some ⟨g, 0, none⟩) n gc) vw) HB1.out).step (HBW.out q)).trans (hf.mono (F1 := blkD b (.slice (some ⟨g, 0, none⟩) n gc) vw) fun k hk => .inr (.inl (by rw [hk]; rfl))) (New.refl _ _)))
          have xf2 := HXF.out (j * 3 + 2)
          go_quiet (fail)
          go_wp2_with fail
          go_region_with fail
          all_goals
            go_wp2_with fail
            first | exact HF.out _ | exact bodyPost_ret (v := .tuple #[]) (by simp [results, Tryz.results29, go_sem]) rfl (HF.out _)
        · have hsn := ba_ne e2
          have hbe : (x.res == l.res) = false := by simp [e2]
          have HA2 := Lib.hid (show ∀ y ∈ H.take (j + 1), ¬ keyE l y by
            rw [List.take_add_one, HXX.out]
            intro y hy
            rcases List.mem_append.1 hy with q | q
            · exact HA.out y q
            · simp at q; rw [q]; exact fun c => e2 c.2.symm)
          clear e1 e2
          go_quiet (fail)
          go_wp2_with fail
          go_roundw
          case rel => exact ⟨j + 1, by omega, by first | rfl | go_num, Lib.hid (HBW.out _), HA2⟩
          case measure => simp [intOf]; omega
      · have hte : (x.txn == l.txn) = false := by simp [e1]
        have HA2 := Lib.hid (show ∀ y ∈ H.take (j + 1), ¬ keyE l y by
          rw [List.take_add_one, HXX.out]
          intro y hy
          rcases List.mem_append.1 hy with q | q
          · exact HA.out y q
          · simp at q; rw [q]; exact fun c => e1 c.1.symm)
        clear e1
        go_quiet (fail)
        go_wp2_with fail
        go_roundw
        case rel => exact ⟨j + 1, by omega, by first | rfl | go_num, Lib.hid (HBW.out _), HA2⟩
        case measure => simp [intOf]; omega
    · obtain rfl : j = n := by omega
      have cf : decide ((j : Int) < (j : Int)) = false := by simp
      have HNK := Lib.hid (show ∀ x ∈ H, ¬ keyE l x by have := HA.out; rw [List.take_of_length_le (Nat.le_of_eq HN.out)] at this; exact this)
      have hbC : Below wr.heap.size wr (wr.alloc (.cells #[.int .i64 l.txn, .string ⟨l.res.toArray⟩, .int .i64 l.mode] 42)) := (Below.refl _ _).alloc (Nat.le_refl _) _
      have HBC := Lib.hid hbC
      have HMC := Lib.hid (HMR.out.below hbC.drew)
      have HNW := Lib.hid (fun (i : Nat) (u : Value) (hi : (KL.cells [l])[i]? = some u) => show (wr.alloc (.cells #[.int .i64 l.txn, .string ⟨l.res.toArray⟩, .int .i64 l.mode] 42)).drew.cell? ((⟨wr.heap.size, 0, none⟩ : Addr).add i) = some u from one_new KL wr l #[.int .i64 l.txn, .string ⟨l.res.toArray⟩, .int .i64 l.mode] rfl i u hi)
      have HLN := Lib.hid (show H.length + 1 ≤ 4294967297 by rw [HN.out]; omega)
      have HSZ := Lib.hid (show B ≤ (wr.alloc (.cells #[.int .i64 l.txn, .string ⟨l.res.toArray⟩, .int .i64 l.mode] 42)).drew.heap.size from Nat.le_trans hB (Nat.le_trans HB1.out.size (Nat.le_trans HB.out.size hbC.size)))
      have c0' := HMC.out.cells.1
      clear hM cf0 hbC HA
      go_upto_region 6 with fail
      obtain ⟨m, hm⟩ : ∃ m, j + 1 = m := ⟨_, rfl⟩
      have HL1 := Lib.hid (show (H ++ [l]).length = m by rw [List.length_append, HN.out]; exact hm)
      have HMJ := Lib.hid hm
      clear hm
      have HFC := Lib.hid (show Frm (blkD b (.slice ga j gc) vw) w (wr.alloc (.cells #[.int .i64 l.txn, .string ⟨l.res.toArray⟩, .int .i64 l.mode] 42)).drew from
        (((Frm.of_below (F := blkD b (.slice ga j gc) vw) HB1.out).step HB.out).step HBC.out).drew)
      have HSC := Lib.hid (show w.heap.size ≤ (wr.alloc (.cells #[.int .i64 l.txn, .string ⟨l.res.toArray⟩, .int .i64 l.mode] 42)).drew.heap.size from HFC.out.size)
      go_cut [56] (fun i wx => ∃ (av : Option Addr) (cv : Nat), Hid (RfM wx B b (.slice av m cv) vw (H.take j ++ l :: H.drop j) W) ∧ Hid (Frm (blkD b (.slice ga j gc) vw) w wx) ∧ Hid (New w (blkD b (.slice ga j gc) vw) (blkD b (.slice av m cv) vw)))
      case first =>
        go_region_law (first | (refine OwR.reg (K := KL) rfl _ _ rfl B (.slice ga j gc) H rfl HMC.out.oh HSZ.out ⟨wr.heap.size, 0, none⟩ 1 _ [l] rfl rfl HNW.out HLN.out ?_; intro v' w6 q6 g6 n6; obtain ⟨av, cv, ev, hv1, hv2⟩ := q6.sl; rw [HL1.out] at ev hv1; subst ev; obtain ⟨k0, k1, hM6⟩ := HMC.out.pushH q6 g6; have HM6 := Lib.hid hM6; have HG6 := Lib.hid (And.intro g6 n6); clear q6 g6 n6 hM6 hv1 hv2))
        all_goals
          have HFR0 := Lib.hid (show Frm (blkD b (.slice ga j gc) vw) w (w6.setCell ⟨b, 0, none⟩ (.slice av m cv)) from
            ((HFC.out.grown HG6.out.1 (fun k hk => .inl (.inr (.inl hk)))).trans (Frm.set1 (F := blkD b (.slice ga j gc) vw) w6 (.inl rfl) _ _) (New.refl _ _)))
          have HNB := Lib.hid (show New w (blkD b (.slice ga j gc) vw) (blkD b (.slice av m cv) vw) from fun k hk => by
            rcases hk with e | e | e
            · exact .inl (.inl e)
            · rcases HG6.out.2 k e with q | q
              · exact .inl (.inr (.inl q))
              · exact .inr (Nat.le_trans HSC.out q)
            · exact .inl (.inr (.inr e)))
          have HM0 := Lib.hid (show RfM (w6.setCell ⟨b, 0, none⟩ (.slice av m cv)) B b (.slice av m cv) vw (H.take j ++ l :: H.drop j) W by
            rw [List.take_of_length_le (Nat.le_of_eq HN.out), List.drop_eq_nil_of_le (Nat.le_of_eq HN.out)]; exact HM6.out)
          have HD0 := Lib.hid (show ∀ x ∈ H.drop j, ahd ordT l x by rw [List.drop_eq_nil_of_le (Nat.le_of_eq HN.out)]; intro x hx; cases hx)
          have c7 := HM0.out.cells.1
          have hj1 : IntKind.i64.wrap ((m : Int) - 1) = (j : Int) := by have := HMJ.out; rw [IntWalk.i64_in _ (by omega)]; omega
          obtain ⟨W7, hW7⟩ : ∃ W7, w6.setCell ⟨b, 0, none⟩ (.slice av m cv) = W7 := ⟨_, rfl⟩
          rw [hW7] at HFR0 HM0 c7
          try rw [hW7]
          clear hW7
          go_wp2_with fail
          go_meet
          exact ⟨av, cv, HM0, HFR0, HNB⟩
      case rest =>
      obtain ⟨av, cv, HM0, HFR0, HNB⟩ := hcut
      have c7 := HM0.out.cells.1
      have hj1 : IntKind.i64.wrap ((m : Int) - 1) = (j : Int) := by have := HMJ.out; rw [IntWalk.i64_in _ (by omega)]; omega
      have HD0 := Lib.hid (show ∀ x ∈ H.drop j, ahd ordT l x by rw [List.drop_eq_nil_of_le (Nat.le_of_eq HN.out)]; intro x hx; cases hx)
      clear HMC HFC HMR c0 c0' p0 p1 p2
      go_wp2_with fail
      go_loopw [5] (fun i wx => ∃ k : Nat, k ≤ j ∧ i = .int .i64 k ∧ Hid (RfM wx B b (.slice av m cv) vw (H.take k ++ l :: H.drop k) W) ∧ Hid (∀ x ∈ H.drop k, ahd ordT l x) ∧ Hid (Frm (blkD b (.slice ga j gc) vw) w wx)) (fun i _ => (intOf i).toNat)
      case atStart => exact ⟨j, Nat.le_refl _, rfl, HM0, HD0, HFR0⟩
      case round =>
        clear HM0 HD0 HFR0 c7
        obtain ⟨k, hk, rfl, HM, HD, HFR⟩ := hrel
        obtain ⟨c0, -, cf0⟩ := HM.out.cells
        have HEND := Lib.hid (fun (wz : World) (hz : Below wr.heap.size wr wz) (hg : gv ordT l H = H.take k ++ l :: H.drop k) => show P (.returned (.tuple #[])) wz by
          rw [← HP.out, hg]
          exact ⟨rfl, _, _, HM.out.below hz, HFR.out.step hz, HNB.out⟩)
        have HBQ := Lib.hid (fun (q : Nat) => show Below wr.heap.size wr (wr.drewN q) from ⟨rfl, rfl, rfl, Nat.le_refl _, fun _ _ => rfl⟩)
        by_cases k0 : k = 0
        · subst k0
          have HF := Lib.hid (fun (q : Nat) => HEND.out _ (HBQ.out q) (gv_rest (k := 0) (by omega) HS.out HNK.out HD.out (fun y h => absurd rfl h)))
          go_upto_region 8 with fail
          go_quiet (fail)
          go_wp2_with fail
          first | exact HF.out _ | exact bodyPost_ret (v := .tuple #[]) (by simp [results, Tryz.results29, go_sem]) rfl (HF.out _)
        · obtain ⟨k', hk'⟩ : ∃ k', k = k' + 1 := ⟨k - 1, by omega⟩
          have HK' := Lib.hid hk'
          have hkl : k' < H.length := by rw [HN.out]; omega
          obtain ⟨y, hy⟩ : ∃ y, H[k']? = some y := ⟨_, List.getElem?_eq_getElem hkl⟩
          obtain ⟨g2, rfl, -, -, hg2⟩ := HM.out.oh.blk (i := k') (by rw [bub_len]; omega)
          obtain ⟨x0, x1, x2, xf⟩ := kl_at HM.out.oh (bub_at (l := l) (show k ≤ H.length by omega))
          obtain ⟨y0, y1, y2, -⟩ := kl_at HM.out.oh (by rw [hk']; exact bub_pre (l := l) hy)
          have HY := Lib.hid hy
          have HKL := Lib.hid hkl
          have HXF := Lib.hid xf
          have HS0 := Lib.hid (fun (w' : World) (hb : Below wr.heap.size wr w') => show Below wr.heap.size wr w' ∧ w'.cell? ⟨b, 0, none⟩ = some (.slice (some ⟨g2, 0, none⟩) m cv) ∧ w'.cell? ⟨g2, k * 3, none⟩ = some (.int .i64 l.txn) ∧ w'.cell? ⟨g2, k * 3 + 1, none⟩ = some (.string ⟨l.res.toArray⟩) ∧ w'.cell? ⟨g2, k * 3 + 2, none⟩ = some (.int .i64 l.mode) ∧ w'.cell? ⟨g2, k' * 3, none⟩ = some (.int .i64 y.txn) ∧ w'.cell? ⟨g2, k' * 3 + 1, none⟩ = some (.string ⟨y.res.toArray⟩) ∧ w'.cell? ⟨g2, k' * 3 + 2, none⟩ = some (.int .i64 y.mode) by
            have hm := HM.out.below hb
            obtain ⟨x0, x1, x2, -⟩ := kl_at hm.oh (bub_at (l := l) (show k ≤ H.length by have := HKL.out; have := HK'.out; omega))
            obtain ⟨y0, y1, y2, -⟩ := kl_at hm.oh (by rw [HK'.out]; exact bub_pre (l := l) HY.out)
            exact ⟨hb, hm.cells.1, x0, x1, x2, y0, y1, y2⟩)
          have hmj := HMJ.out
          have hkw : IntKind.i64.wrap ((k : Int) - 1) = (k' : Int) := by rw [IntWalk.i64_in _ (by omega)]; omega
          have hkp : (0 : Int) < (k : Int) := by omega
          have hkn : 0 < k := by omega
          have hkm : k < m := by omega
          have hkm2 : k' < m := by omega
          have hk0 : (0 : Int) ≤ (k : Int) := by omega
          have hk9 : (0 : Int) ≤ (k' : Int) := by omega
          have hk1 : (k : Int) < (m : Int) := by omega
          have hk2 : (k' : Int) < (m : Int) := by omega
          have hah := fun w' => ahead_any w' l y
          unfold encL at hah
          clear hy hkl xf k0 hmj hk'
          go_upto_region 8 with fail
          by_cases ca : ahd ordT l y
          · rw [decide_eq_true ca] at hah
            have HAH := Lib.hid hah
            clear hah
            go_region_held3 (fun w' => Below wr.heap.size wr w' ∧ w'.cell? ⟨b, 0, none⟩ = some (.slice (some ⟨g2, 0, none⟩) m cv) ∧ w'.cell? ⟨g2, k * 3, none⟩ = some (.int .i64 l.txn) ∧ w'.cell? ⟨g2, k * 3 + 1, none⟩ = some (.string ⟨l.res.toArray⟩) ∧ w'.cell? ⟨g2, k * 3 + 2, none⟩ = some (.int .i64 l.mode) ∧ w'.cell? ⟨g2, k' * 3, none⟩ = some (.int .i64 y.txn) ∧ w'.cell? ⟨g2, k' * 3 + 1, none⟩ = some (.string ⟨y.res.toArray⟩) ∧ w'.cell? ⟨g2, k' * 3 + 2, none⟩ = some (.int .i64 y.mode))
              (first | exact HS0.out _ (Below.refl _ _) | exact HS0.out _ (Below.refl _ _).drew | exact HS0.out _ hbx)
              (first | (go_at_call 54; refine (HAH.out _).mono ?_; rintro e w1 ⟨rfl, hbx0⟩; have hbx : Below wr.heap.size wr w1 := clb (by assumption) hbx0))
            all_goals
              obtain ⟨-, d0, d1, d2, d3, d4, d5, d6⟩ := HS0.out _ hbx
              obtain ⟨W4, hW4⟩ : ∃ W4, w1.alloc (.cells #[.int .i64 l.txn, .string ⟨l.res.toArray⟩, .int .i64 l.mode] 42) = W4 := ⟨_, rfl⟩
              have hb4 : Below w1.heap.size w1 W4 := by rw [← hW4]; exact (Below.refl _ _).alloc (Nat.le_refl _) _
              have HX4 := Lib.hid (show BxL W4 w1.heap.size l by rw [← hW4]; exact bxL_new w1 l)
              have HB4 := Lib.hid (show Below wr.heap.size wr W4 from hbx.trans (hb4.mono hbx.size))
              have HM4 := Lib.hid (HM.out.below HB4.out)
              have hkl5 : k < (H.take k ++ l :: H.drop k).length := by rw [bub_len]; have := HKL.out; have := HK'.out; omega
              obtain ⟨W5, hW5⟩ : ∃ W5, ((W4.setCell ⟨g2, k * 3, none⟩ (.int .i64 y.txn)).setCell ⟨g2, k * 3 + 1, none⟩ (.string ⟨y.res.toArray⟩)).setCell ⟨g2, k * 3 + 2, none⟩ (.int .i64 y.mode) = W5 := ⟨_, rfl⟩
              have HF5 := Lib.hid (show Frm (fun q => q = g2) W4 W5 by rw [← hW5]; exact frm3 _ _ _ _ _ _ _ _)
              have HM5 := Lib.hid (show RfM W5 B b (.slice (some ⟨g2, 0, none⟩) m cv) vw ((H.take k ++ l :: H.drop k).set k y) W by
                refine HM4.out.turnH rfl ?_ HF5.out
                rw [← hW5]
                exact kl_set HM4.out.oh hkl5 y)
              have hkl6 : k' < ((H.take k ++ l :: H.drop k).set k y).length := by rw [List.length_set, bub_len]; have := HKL.out; omega
              obtain ⟨W6, hW6⟩ : ∃ W6, ((W5.setCell ⟨g2, k' * 3, none⟩ (.int .i64 l.txn)).setCell ⟨g2, k' * 3 + 1, none⟩ (.string ⟨l.res.toArray⟩)).setCell ⟨g2, k' * 3 + 2, none⟩ (.int .i64 l.mode) = W6 := ⟨_, rfl⟩
              have HF6 := Lib.hid (show Frm (fun q => q = g2) W5 W6 by rw [← hW6]; exact frm3 _ _ _ _ _ _ _ _)
              have HM6 := Lib.hid (show RfM W6 B b (.slice (some ⟨g2, 0, none⟩) m cv) vw (H.take k' ++ l :: H.drop k') W by
                have h5 := HM5.out
                have h6 := h5.turnH (w' := W6) (H' := ((H.take k ++ l :: H.drop k).set k y).set k' l) rfl (by rw [← hW6]; exact kl_set h5.oh hkl6 l) HF6.out
                have e := bub (l := l) HY.out
                rw [← HK'.out] at e
                rw [← e]
                exact h6)
              have HFR6 := Lib.hid (show Frm (blkD b (.slice ga j gc) vw) w W6 by
                have hg : ∀ q, q = g2 → blkD b (.slice ga j gc) vw q ∨ w.heap.size ≤ q := fun q hq => HNB.out q (by rw [hq]; exact .inr (.inl rfl))
                exact ((HFR.out.step HB4.out).trans HF5.out hg).trans HF6.out hg)
              have HD6 := Lib.hid (show ∀ x ∈ H.drop k', ahd ordT l x by
                rw [drop_at HY.out]
                intro x hx
                rcases List.mem_cons.1 hx with e | e
                · rw [e]; exact ca
                · rw [← HK'.out] at e; exact HD.out x e)
              have hkn1 : k' ≤ j := by have := HK'.out; omega
              obtain ⟨a0, a1, a2, af⟩ := kl_at HM4.out.oh (bub_at (l := l) (show k ≤ H.length by have := HKL.out; have := HK'.out; omega))
              obtain ⟨b0, b1, b2, -⟩ := kl_at HM4.out.oh (by rw [HK'.out]; exact bub_pre (l := l) HY.out)
              have e0 := HM4.out.cells.1
              have f0 := af (k * 3)
              have f1 := af (k * 3 + 1)
              have f2 := af (k * 3 + 2)
              have e5 := HM5.out.cells.1
              have hbx5 := HX4.out.step HF5.out (fun c => by have h1 := (HM.out.oh.lt (k := g2) rfl).2.1; have h2 := hbx.size; have h3 : w1.heap.size = g2 := c; omega)
              obtain ⟨p0, p1, p2⟩ := hbx5.cells
              have hr5 : ∃ z0 z1 z2, W5.cell? ⟨g2, k' * 3, none⟩ = some z0 ∧ W5.cell? ⟨g2, k' * 3 + 1, none⟩ = some z1 ∧ W5.cell? ⟨g2, k' * 3 + 2, none⟩ = some z2 ∧ ∀ o, W5.frozen? ⟨g2, o, none⟩ = false := by
                obtain ⟨q0, q1, q2, q3⟩ := kl_at HM5.out.oh (List.getElem?_eq_getElem hkl6)
                exact ⟨_, _, _, q0, q1, q2, q3⟩
              obtain ⟨z0, z1, z2, t0, t1, t2, tf⟩ := hr5
              have v0 := tf (k' * 3)
              have v1 := tf (k' * 3 + 1)
              have v2 := tf (k' * 3 + 2)
              clear hb4 hbx5 hkl5 hkl6 af tf x0 x1 x2 y0 y1 y2 c0 cf0
              go_upto_region 11 with fail
              try rw [hW4]
              clear hW4 d0 d1 d2 d3 d4 d5 d6
              go_region_law (fail)
              all_goals
                try rw [hW5]
                clear hW5
                go_upto_region 12 with fail
                go_region_law (fail)
                all_goals
                  try rw [hW6]
                  clear hW6
                  go_wp2_with fail
                  go_roundw
                  case rel => exact ⟨k', hkn1, by first | rfl | go_num, (by first | exact HM6 | exact Lib.hid (HM6.out.below (Below.refl _ _).drew) | exact Lib.hid (HM6.out.below (Below.refl _ _).drew.drew)), HD6, (by first | exact HFR6 | exact Lib.hid (HFR6.out.drew) | exact Lib.hid (HFR6.out.drew.drew))⟩
                  case measure => simp [intOf]; have := HK'.out; omega
          · rw [decide_eq_false ca] at hah
            have HAH := Lib.hid hah
            clear hah
            have HGR := Lib.hid (gv_rest (k := k) (by have := HKL.out; have := HK'.out; omega) HS.out HNK.out HD.out (fun y' _ hy' => by
              have e := HK'.out
              rw [show k - 1 = k' by omega, HY.out] at hy'
              injection hy' with hy'
              rw [← hy']; exact ca))
            go_region_held3 (fun w' => Below wr.heap.size wr w' ∧ w'.cell? ⟨b, 0, none⟩ = some (.slice (some ⟨g2, 0, none⟩) m cv) ∧ w'.cell? ⟨g2, k * 3, none⟩ = some (.int .i64 l.txn) ∧ w'.cell? ⟨g2, k * 3 + 1, none⟩ = some (.string ⟨l.res.toArray⟩) ∧ w'.cell? ⟨g2, k * 3 + 2, none⟩ = some (.int .i64 l.mode) ∧ w'.cell? ⟨g2, k' * 3, none⟩ = some (.int .i64 y.txn) ∧ w'.cell? ⟨g2, k' * 3 + 1, none⟩ = some (.string ⟨y.res.toArray⟩) ∧ w'.cell? ⟨g2, k' * 3 + 2, none⟩ = some (.int .i64 y.mode))
              (first | exact HS0.out _ (Below.refl _ _) | exact HS0.out _ (Below.refl _ _).drew | exact HS0.out _ hbx)
              (first | (go_at_call 54; refine (HAH.out _).mono ?_; rintro e w1 ⟨rfl, hbx0⟩; have hbx : Below wr.heap.size wr w1 := clb (by assumption) hbx0))
            all_goals
              have HF := Lib.hid (HEND.out _ hbx HGR.out)
              go_wp2_with fail
              first | exact HF.out | exact bodyPost_ret (v := .tuple #[]) (by simp [results, Tryz.results29, go_sem]) rfl HF.out

end Go.Proofs.YtelfinhpjokmdaaGreatDoor

namespace Go.Proofs.YtelfinhpjokmdaaGreatDoor
set_option maxRecDepth 100000
open Go.RowKit Go.Joins Go.ChangeShapes Go.WideShapes
open Go.MapKept
set_option linter.unusedVariables false
set_option linter.unnecessarySimpa false
set_option linter.unusedSimpArgs false

section
variable {w w' w9 : World} {B b : Nat} {vh vw vh' vw' : Value} {H H' : List Lv} {W W' : List Wv}
theorem RfM.pushW (h : RfM w B b vh vw H W) (ho : OwR KW w' B vw' W') (hg : w.grownBy w' vw.ownBlock) : w'.cell? ⟨b, 1, none⟩ = some vw ∧ w'.frozen? ⟨b, 1, none⟩ = false ∧ RfM (w'.setCell ⟨b, 1, none⟩ vw') B b vh vw' H W' := by
  have hf : Frm (fun k => vw.ownBlock = some k) w w' := Frm.grown (F := fun k => vw.ownBlock = some k) (Frm.refl _ w) hg (fun k hk => .inl hk)
  have hd := (hf.heap h.lt h.nw).trans h.hd
  have hw : OwR KL w' B vh H := h.oh.step hf (fun k e c => h.nn e c)
  have hs : Frm (fun k => k = b) w' (w'.setCell ⟨b, 1, none⟩ vw') := Frm.set1 (F := fun k => k = b) w' rfl _ _
  have hn : vw'.ownBlock ≠ some b := fun e => by
    obtain ⟨-, -, cur, e2⟩ := ho.lt e
    rw [hd] at e2
    injection e2 with e2
    injection e2 with _ e2
    exact absurd e2 (by decide)
  refine ⟨by rw [cell_of_block hd]; rfl, unfrozen_of_block hd 1, ?_, hw.step hs (fun k e c => h.nh (by rw [e, c])), ho.step hs (fun k e c => hn (by rw [e, c])), h.lo⟩
  rw [heap_setCell_same w' b 1 _ _ _ hd]
  rfl
theorem WentD.after (hb : Below w.heap.size w w9) (hg : WentD w9 w' B b vh vw H W) : WentD w w' B b vh vw H W := by
  obtain ⟨vh', vw', hM, hf, hn⟩ := hg
  exact ⟨vh', vw', hM, (Frm.of_below (F := blkD b vh vw) hb).trans hf (New.refl _ _), fun k hk => (hn k hk).imp (fun h => h) (Nat.le_trans hb.size)⟩
theorem WentD.same (h : RfM w B b vh vw H W) (hb : Below w.heap.size w w') : WentD w w' B b vh vw H W := ⟨vh, vw, h.below hb, Frm.of_below hb, fun k hk => .inl hk⟩
/-- a wish more -/
theorem WentD.wish (h : RfM w B b vh vw H W) (hb : Below w.heap.size w w9) (ho : OwR KW w' B vw' W') (hg : w9.grownBy w' vw.ownBlock) (hn : NewR w9 vw vw') : WentD w (w'.setCell ⟨b, 1, none⟩ vw') B b vh vw H W' := by
  obtain ⟨-, -, hM⟩ := (h.below hb).pushW ho hg
  refine ⟨vh, vw', hM, (((Frm.of_below (F := blkD b vh vw) hb).grown hg (fun k hk => .inl (.inr (.inr hk)))).trans (Frm.set1 (F := blkD b vh vw) w' (.inl rfl) _ _) (New.refl _ _)), fun k hk => ?_⟩
  rcases hk with e | e | e
  · exact .inl (.inl e)
  · exact .inl (.inr (.inl e))
  · rcases hn k e with q | q
    · exact .inl (.inr (.inr q))
    · exact .inr (Nat.le_trans hb.size q)
end
set_option maxHeartbeats 16000000 in
theorem rask_any {w : World} {B b : Nat} {vh vw : Value} {T : TbL RS} (h : RfM w B b vh vw T.hv T.wt) (hi : InvL ordT mds T) (hZ : sizT T ≤ 1000000) (hB : B ≤ w.heap.size) (t : Int) (s : RS) (md : Int) :
    Calls Tryz.prog 7 #[.pointer (some ⟨b, 0, none⟩), .int .i64 t, .string ⟨s.toArray⟩, .int .i64 md] w fun e w' => e = .returned (.int .i64 (askL ordT mds T t s md).2) ∧ WentD w w' B b vh vw (askL ordT mds T t s md).1.hv (askL ordT mds T t s md).1.wt := by
  have hzh : T.hv.length ≤ 2000000 := by unfold sizT at hZ; omega
  have hzw : T.wt.length ≤ 2000000 := by unfold sizT at hZ; omega
  have HZ := Lib.hid (And.intro hzh hzw)
  have HI := Lib.hid hi
  have HM := Lib.hid h
  generalize hP : (fun (e : Ending) (w' : World) => e = .returned (.int .i64 (askL ordT mds T t s md).2) ∧ WentD w w' B b vh vw (askL ordT mds T t s md).1.hv (askL ordT mds T t s md).1.wt) = P
  have HP := Lib.hid hP
  have HW := Lib.hid (rwish_any h t)
  have HB0 := Lib.hid hB
  clear h hi hZ hP hzh hzw hB
  go_enter Tryz.func7, Tryz.ntmps7
  go_wp2_with fail
  refine HW.out.mono ?_
  rintro e w1 ⟨rfl, hb1⟩
  obtain ⟨q, hq⟩ : ∃ q, (wsh T.wt t).getD zL = q := ⟨_, rfl⟩
  obtain ⟨is, his⟩ : ∃ is, (wsh T.wt t).isSome = is := ⟨_, rfl⟩
  rw [hq, his]
  unfold encL
  obtain ⟨W2, hW2⟩ : ∃ W2, w1.alloc (.cells #[.int .i64 q.txn, .string ⟨q.res.toArray⟩, .int .i64 q.mode] 42) = W2 := ⟨_, rfl⟩
  have HB2 := Lib.hid (show Below w.heap.size w W2 by rw [← hW2]; exact hb1.alloc hb1.size _)
  have HIS := Lib.hid his
  have HR := Lib.hid (rright_any md W2)
  clear hq his hb1 HW
  go_upto_region 2 with fail
  try rw [hW2]
  clear hW2
  obtain ⟨rg, hrg⟩ : ∃ rg, mrg md = rg := ⟨_, rfl⟩
  rw [hrg] at HR
  have HRG := Lib.hid hrg
  clear hrg
  go_wp2_with fail
  refine HR.out.mono ?_
  rintro e w3 ⟨rfl, hw3⟩
  subst hw3
  have HB3 := HB2
  clear HR HB2
  cases rg with
  | false =>
    have HF := Lib.hid (show P (.returned (.int .i64 0)) W2 by
      rw [← HP.out]
      have e : askL ordT mds T t s md = (T, 0) := by unfold askL; rw [if_pos (.inl HRG.out)]
      rw [e]
      exact ⟨rfl, WentD.same HM.out HB3.out⟩)
    go_wp2_with fail
    first | exact HF.out | simpa using HF.out
  | true =>
    cases is with
    | true =>
      have HF := Lib.hid (show P (.returned (.int .i64 0)) W2 by
        rw [← HP.out]
        have e : askL ordT mds T t s md = (T, 0) := by unfold askL; rw [if_pos (.inr HIS.out)]
        rw [e]
        exact ⟨rfl, WentD.same HM.out HB3.out⟩)
      go_wp2_with fail
      first | exact HF.out | simpa using HF.out
    | false =>
      have HNC := Lib.hid (show ¬ (mds.right md = false ∨ (wsh T.wt t).isSome = true) by
        rintro (e | e)
        · have := HRG.out; rw [show mrg md = false from e] at this; cases this
        · rw [HIS.out] at e; cases e)
      have HMD := Lib.hid (rmode_any (HM.out.below HB3.out) t s)
      obtain ⟨had, hhad⟩ : ∃ had, mdO T.hv t s = had := ⟨_, rfl⟩
      rw [hhad] at HMD
      have HJ := Lib.hid (rjoin_any had md W2)
      obtain ⟨jn, hjn⟩ : ∃ jn, jnI had md = jn := ⟨_, rfl⟩
      rw [hjn] at HJ
      have HHD := Lib.hid hhad
      have HJN := Lib.hid (show mds.jn (mdO T.hv t s) md = jn by rw [hhad]; exact hjn)
      clear hhad hjn
      go_wp2_with fail
      refine HMD.out.mono ?_
      rintro e w4 ⟨rfl, rfl⟩
      go_wp2_with fail
      refine HJ.out.mono ?_
      rintro e w5 ⟨rfl, hb5⟩
      obtain ⟨W6, hW6⟩ : ∃ W6, w5.alloc (.cells #[.int .i64 t, .string ⟨s.toArray⟩, .int .i64 jn] 42) = W6 := ⟨_, rfl⟩
      have HB6 := Lib.hid (show Below w.heap.size w W6 by rw [← hW6]; exact (HB3.out.trans (hb5.mono HB3.out.size)).alloc (Nat.le_trans HB3.out.size hb5.size) _)
      have HX6 := Lib.hid (show BxL W6 w5.heap.size ⟨t, s, jn⟩ by rw [← hW6]; exact bxL_new w5 ⟨t, s, jn⟩)
      obtain ⟨p0, p1, p2⟩ := HX6.out.cells
      have HM6 := Lib.hid (HM.out.below HB6.out)
      clear hb5 HJ HMD HB3
      by_cases c2 : jn = had
      · have HF := Lib.hid (show P (.returned (.int .i64 1)) W6 by
          rw [← HP.out]
          have e : askL ordT mds T t s md = (T, 1) := by unfold askL; rw [if_neg HNC.out, if_pos (by rw [HJN.out, HHD.out]; exact c2)]
          rw [e]
          exact ⟨rfl, WentD.same HM.out HB6.out⟩)
        subst c2
        go_upto_region 6 with fail
        try rw [hW6]
        clear hW6
        go_wp2_with fail
        first | exact HF.out | simpa using HF.out
      · have c2d : (jn == had) = false := by simp [c2]
        have HC2 := Lib.hid (show ¬ mds.jn (mdO T.hv t s) md = mdO T.hv t s by rw [HJN.out, HHD.out]; exact c2)
        have hcan := rcan_any HM6.out ⟨t, s, jn⟩
        unfold encL at hcan
        obtain ⟨cn, hcn⟩ : ∃ cn, can mds T.hv ⟨t, s, jn⟩ = cn := ⟨_, rfl⟩
        rw [hcn] at hcan
        have HCAN := Lib.hid hcan
        have HCN := Lib.hid hcn
        clear hcan hcn
        go_upto_region 6 with fail
        try rw [hW6]
        clear hW6 c2
        go_wp2_with fail
        refine HCAN.out.mono ?_
        rintro e w7 ⟨rfl, hb7⟩
        have HB7 := Lib.hid (HB6.out.trans (hb7.mono HB6.out.size))
        have HX7 := Lib.hid (HX6.out.below hb7)
        have HM7 := Lib.hid (HM.out.below HB7.out)
        clear hb7 p0 p1 p2 HCAN
        cases cn with
        | false =>
          by_cases hd0 : had = 0
          · have hdz : had = 0 := hd0
            have hde : (had == 0) = true := by simp [hd0]
            clear hd0
            obtain ⟨p0, p1, p2⟩ := HX7.out.cells
            have hMz := HM.out.below HB7.out
            obtain ⟨-, c1, -⟩ := hMz.cells
            obtain ⟨va, vc, hve, -, -⟩ := HM.out.ow.sl
            obtain ⟨nw, hnw⟩ : ∃ nw, T.wt.length = nw := ⟨_, rfl⟩
            rw [hnw] at hve
            have hbC : Below w7.heap.size w7 (w7.alloc (.cells #[.int .i64 t, .string ⟨s.toArray⟩, .int .i64 jn, .bool false] 66)).drew := ((Below.refl _ _).alloc (Nat.le_refl _) _).drew
            have HBC := Lib.hid (HB7.out.trans (hbC.mono HB7.out.size))
            have HMC := Lib.hid (HM.out.below HBC.out)
            have HNW := Lib.hid (fun (i : Nat) (u : Value) (hi : (KW.cells [(⟨⟨t, s, jn⟩, false⟩ : Wv)])[i]? = some u) => show (w7.alloc (.cells #[.int .i64 t, .string ⟨s.toArray⟩, .int .i64 jn, .bool false] 66)).drew.cell? ((⟨w7.heap.size, 0, none⟩ : Addr).add i) = some u from one_new KW w7 ⟨⟨t, s, jn⟩, false⟩ #[.int .i64 t, .string ⟨s.toArray⟩, .int .i64 jn, .bool false] rfl i u hi)
            have HLN := Lib.hid (show T.wt.length + 1 ≤ 4294967297 by have := HZ.out.2; omega)
            have HSZ := Lib.hid (Nat.le_trans HB0.out HBC.out.size)
            have HASK := Lib.hid (show askL ordT mds T t s md = (⟨T.hv, T.wt ++ [⟨⟨t, s, jn⟩, false⟩]⟩, 2) by
              unfold askL
              rw [if_neg HNC.out, if_neg HC2.out, if_neg (by rintro ⟨e, -⟩; rw [HJN.out, HCN.out] at e; cases e), HJN.out, HHD.out]
              simp [hdz])
            subst hve
            clear hMz hbC hnw
            have c1' : (w7.alloc (.cells #[.int .i64 t, .string ⟨s.toArray⟩, .int .i64 jn, .bool false] 66)).cell? ⟨b, 1, none⟩ = some (.slice va nw vc) := HMC.out.cells.2.1
            go_upto_region 11 with fail
            go_region_law (first | (refine OwR.reg (K := KW) rfl _ _ rfl B (.slice va nw vc) T.wt rfl HMC.out.ow HSZ.out ⟨w7.heap.size, 0, none⟩ 1 _ [⟨⟨t, s, jn⟩, false⟩] rfl rfl HNW.out HLN.out ?_; intro v' w9 q9 g9 n9; obtain ⟨av, cv, ev, -, -⟩ := q9.sl; obtain ⟨nl, hnl⟩ : ∃ nl, (T.wt ++ [(⟨⟨t, s, jn⟩, false⟩ : Wv)]).length = nl := ⟨_, rfl⟩; rw [hnl] at ev; subst ev; obtain ⟨k0, k1, -⟩ := HMC.out.pushW q9 g9; have HWD := Lib.hid (WentD.wish HM.out HBC.out q9 g9 n9); clear q9 g9 n9 hnl))
            all_goals
              have HF := Lib.hid (show P (.returned (.int .i64 2)) (w9.setCell ⟨b, 1, none⟩ (.slice av nl cv)) by
                rw [← HP.out, HASK.out]
                exact ⟨rfl, HWD.out⟩)
              clear HWD
              go_wp2_with fail
              first | exact HF.out | simpa using HF.out
          · have hdz : ¬ had = 0 := hd0
            have hde : (had == 0) = false := by simp [hd0]
            have hne : (had != 0) = true := by simp [hd0]
            clear hd0
            obtain ⟨p0, p1, p2⟩ := HX7.out.cells
            have hMz := HM.out.below HB7.out
            obtain ⟨-, c1, -⟩ := hMz.cells
            obtain ⟨va, vc, hve, -, -⟩ := HM.out.ow.sl
            obtain ⟨nw, hnw⟩ : ∃ nw, T.wt.length = nw := ⟨_, rfl⟩
            rw [hnw] at hve
            have hbC : Below w7.heap.size w7 (w7.alloc (.cells #[.int .i64 t, .string ⟨s.toArray⟩, .int .i64 jn, .bool true] 66)).drew := ((Below.refl _ _).alloc (Nat.le_refl _) _).drew
            have HBC := Lib.hid (HB7.out.trans (hbC.mono HB7.out.size))
            have HMC := Lib.hid (HM.out.below HBC.out)
            have HNW := Lib.hid (fun (i : Nat) (u : Value) (hi : (KW.cells [(⟨⟨t, s, jn⟩, true⟩ : Wv)])[i]? = some u) => show (w7.alloc (.cells #[.int .i64 t, .string ⟨s.toArray⟩, .int .i64 jn, .bool true] 66)).drew.cell? ((⟨w7.heap.size, 0, none⟩ : Addr).add i) = some u from one_new KW w7 ⟨⟨t, s, jn⟩, true⟩ #[.int .i64 t, .string ⟨s.toArray⟩, .int .i64 jn, .bool true] rfl i u hi)
            have HLN := Lib.hid (show T.wt.length + 1 ≤ 4294967297 by have := HZ.out.2; omega)
            have HSZ := Lib.hid (Nat.le_trans HB0.out HBC.out.size)
            have HASK := Lib.hid (show askL ordT mds T t s md = (⟨T.hv, T.wt ++ [⟨⟨t, s, jn⟩, true⟩]⟩, 2) by
              unfold askL
              rw [if_neg HNC.out, if_neg HC2.out, if_neg (by rintro ⟨e, -⟩; rw [HJN.out, HCN.out] at e; cases e), HJN.out, HHD.out]
              simp [hdz])
            subst hve
            clear hMz hbC hnw
            have c1' : (w7.alloc (.cells #[.int .i64 t, .string ⟨s.toArray⟩, .int .i64 jn, .bool true] 66)).cell? ⟨b, 1, none⟩ = some (.slice va nw vc) := HMC.out.cells.2.1
            go_upto_region 11 with fail
            go_region_law (first | (refine OwR.reg (K := KW) rfl _ _ rfl B (.slice va nw vc) T.wt rfl HMC.out.ow HSZ.out ⟨w7.heap.size, 0, none⟩ 1 _ [⟨⟨t, s, jn⟩, true⟩] rfl rfl HNW.out HLN.out ?_; intro v' w9 q9 g9 n9; obtain ⟨av, cv, ev, -, -⟩ := q9.sl; obtain ⟨nl, hnl⟩ : ∃ nl, (T.wt ++ [(⟨⟨t, s, jn⟩, true⟩ : Wv)]).length = nl := ⟨_, rfl⟩; rw [hnl] at ev; subst ev; obtain ⟨k0, k1, -⟩ := HMC.out.pushW q9 g9; have HWD := Lib.hid (WentD.wish HM.out HBC.out q9 g9 n9); clear q9 g9 n9 hnl))
            all_goals
              have HF := Lib.hid (show P (.returned (.int .i64 2)) (w9.setCell ⟨b, 1, none⟩ (.slice av nl cv)) by
                rw [← HP.out, HASK.out]
                exact ⟨rfl, HWD.out⟩)
              clear HWD
              go_wp2_with fail
              first | exact HF.out | simpa using HF.out
        | true =>
          by_cases hd0 : had = 0
          · subst hd0
            have hdz : (0 : Int) = 0 := rfl
            have HQ := Lib.hid (rqueue_any HM7.out HZ.out.2 s)
            go_wp2_with fail
            refine HQ.out.mono ?_
            rintro e w8 ⟨vq, rfl, hoq, hb8⟩
            obtain ⟨qa, qc, rfl, -, -⟩ := hoq.sl
            have HB8 := Lib.hid (HB7.out.trans (hb8.mono HB7.out.size))
            have HX8 := Lib.hid (HX7.out.below hb8)
            obtain ⟨nq, hnq⟩ : ∃ nq, (que T.wt s).length = nq := ⟨_, rfl⟩
            rw [hnq]
            have HNQ := Lib.hid hnq
            clear hoq hb8 HQ hnq
            by_cases z : nq = 0
            · subst z
              have hgv := rgive_any (HM.out.below HB8.out) HI.out.srt HZ.out.1 (Nat.le_trans HB0.out HB8.out.size) ⟨t, s, jn⟩
              unfold encL at hgv
              have HGV := Lib.hid hgv
              obtain ⟨p0, p1, p2⟩ := HX8.out.cells
              clear hgv
              go_wp2_with fail
              refine HGV.out.mono ?_
              rintro e w9 ⟨rfl, hg9⟩
              have HF := Lib.hid (show P (.returned (.int .i64 1)) w9 by
                rw [← HP.out]
                have e : askL ordT mds T t s md = (⟨gv ordT ⟨t, s, jn⟩ T.hv, T.wt⟩, 1) := by
                  unfold askL
                  rw [if_neg HNC.out, if_neg HC2.out, if_pos (by rw [HJN.out, HCN.out]; exact ⟨rfl, .inr (List.eq_nil_of_length_eq_zero HNQ.out)⟩), HJN.out]
                rw [e]
                exact ⟨rfl, hg9.after HB8.out⟩)
              clear hg9 HGV
              go_wp2_with fail
              first | exact HF.out | simpa using HF.out
            · have hzd : decide ((nq : Int) = 0) = false := by simp [z]
              have hzb : ((nq : Int) == 0) = false := by simp [z]
              obtain ⟨p0, p1, p2⟩ := HX8.out.cells
              have hMz := HM.out.below HB8.out
              obtain ⟨-, c1, -⟩ := hMz.cells
              obtain ⟨va, vc, hve, -, -⟩ := HM.out.ow.sl
              obtain ⟨nw, hnw⟩ : ∃ nw, T.wt.length = nw := ⟨_, rfl⟩
              rw [hnw] at hve
              have hbC : Below w8.heap.size w8 (w8.alloc (.cells #[.int .i64 t, .string ⟨s.toArray⟩, .int .i64 jn, .bool false] 66)).drew := ((Below.refl _ _).alloc (Nat.le_refl _) _).drew
              have HBC := Lib.hid (HB8.out.trans (hbC.mono HB8.out.size))
              have HMC := Lib.hid (HM.out.below HBC.out)
              have HNW := Lib.hid (fun (i : Nat) (u : Value) (hi : (KW.cells [(⟨⟨t, s, jn⟩, false⟩ : Wv)])[i]? = some u) => show (w8.alloc (.cells #[.int .i64 t, .string ⟨s.toArray⟩, .int .i64 jn, .bool false] 66)).drew.cell? ((⟨w8.heap.size, 0, none⟩ : Addr).add i) = some u from one_new KW w8 ⟨⟨t, s, jn⟩, false⟩ #[.int .i64 t, .string ⟨s.toArray⟩, .int .i64 jn, .bool false] rfl i u hi)
              have HLN := Lib.hid (show T.wt.length + 1 ≤ 4294967297 by have := HZ.out.2; omega)
              have HSZ := Lib.hid (Nat.le_trans HB0.out HBC.out.size)
              have HASK := Lib.hid (show askL ordT mds T t s md = (⟨T.hv, T.wt ++ [⟨⟨t, s, jn⟩, false⟩]⟩, 2) by
                unfold askL
                rw [if_neg HNC.out, if_neg HC2.out, if_neg (by rintro ⟨-, e | e⟩; exact e HHD.out; exact z (by rw [← HNQ.out, e]; rfl)), HJN.out, HHD.out]
                simp [hdz])
              subst hve
              clear hMz hbC hnw
              have c1' : (w8.alloc (.cells #[.int .i64 t, .string ⟨s.toArray⟩, .int .i64 jn, .bool false] 66)).cell? ⟨b, 1, none⟩ = some (.slice va nw vc) := HMC.out.cells.2.1
              go_upto_region 11 with fail
              go_region_law (first | (refine OwR.reg (K := KW) rfl _ _ rfl B (.slice va nw vc) T.wt rfl HMC.out.ow HSZ.out ⟨w8.heap.size, 0, none⟩ 1 _ [⟨⟨t, s, jn⟩, false⟩] rfl rfl HNW.out HLN.out ?_; intro v' w9 q9 g9 n9; obtain ⟨av, cv, ev, -, -⟩ := q9.sl; obtain ⟨nl, hnl⟩ : ∃ nl, (T.wt ++ [(⟨⟨t, s, jn⟩, false⟩ : Wv)]).length = nl := ⟨_, rfl⟩; rw [hnl] at ev; subst ev; obtain ⟨k0, k1, -⟩ := HMC.out.pushW q9 g9; have HWD := Lib.hid (WentD.wish HM.out HBC.out q9 g9 n9); clear q9 g9 n9 hnl))
              all_goals
                have HF := Lib.hid (show P (.returned (.int .i64 2)) (w9.setCell ⟨b, 1, none⟩ (.slice av nl cv)) by
                  rw [← HP.out, HASK.out]
                  exact ⟨rfl, HWD.out⟩)
                clear HWD
                go_wp2_with fail
                first | exact HF.out | simpa using HF.out
          · have hde : (had == 0) = false := by simp [hd0]
            have hne : (had != 0) = true := by simp [hd0]
            have hgv := rgive_any (HM.out.below HB7.out) HI.out.srt HZ.out.1 (Nat.le_trans HB0.out HB7.out.size) ⟨t, s, jn⟩
            unfold encL at hgv
            have HGV := Lib.hid hgv
            obtain ⟨p0, p1, p2⟩ := HX7.out.cells
            clear hgv
            go_wp2_with fail
            refine HGV.out.mono ?_
            rintro e w9 ⟨rfl, hg9⟩
            have HF := Lib.hid (show P (.returned (.int .i64 1)) w9 by
              rw [← HP.out]
              have e : askL ordT mds T t s md = (⟨gv ordT ⟨t, s, jn⟩ T.hv, T.wt⟩, 1) := by
                unfold askL
                rw [if_neg HNC.out, if_neg HC2.out, if_pos (by rw [HJN.out, HCN.out]; exact ⟨rfl, .inl (by rw [HHD.out]; exact hd0)⟩), HJN.out]
              rw [e]
              exact ⟨rfl, hg9.after HB7.out⟩)
            clear hg9 HGV
            go_wp2_with fail
            first | exact HF.out | simpa using HF.out

end Go.Proofs.YtelfinhpjokmdaaGreatDoor

namespace Go.Proofs.YtelfinhpjokmdaaGreatDoor
set_option maxRecDepth 100000
theorem ld0 : True := trivial
end Go.Proofs.YtelfinhpjokmdaaGreatDoor
