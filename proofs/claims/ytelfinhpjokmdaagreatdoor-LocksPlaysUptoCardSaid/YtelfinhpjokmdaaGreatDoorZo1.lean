/-
  Texts of mine put together, in build order.
  Conditions: as each declaration says.
-/
import Derived.Test.YtelfinhpjokmdaaGreatDoorZn9
namespace Go.Proofs.YtelfinhpjokmdaaGreatDoor
set_option maxRecDepth 100000
open Go.RowKit Go.Joins Go.ChangeShapes Go.WideShapes
open Go.MapKept
set_option linter.unusedVariables false
set_option linter.unnecessarySimpa false
set_option linter.unusedSimpArgs false

theorem infoSt : (Tryz.prog.info? 9).map (fun i => (i.zero, i.size, i.bytes)) = some (some (.string ByteArray.empty), 1, 16) := by kernel_rfl
theorem infoIt : (Tryz.prog.info? 3).map (fun i => (i.zero, i.size, i.bytes)) = some (some (.int .i64 0), 1, 8) := by kernel_rfl
def KS : RK Tryz.prog RS where
  enc x := [.string ⟨x.toArray⟩]
  n := 1
  te := 9
  ts := 67
  bytes := 16
  z := .string ByteArray.empty
  len _ := rfl
  one x u hu := by simp only [List.mem_cons, List.not_mem_nil, or_false] at hu; rw [hu]; rfl
  pos := by decide
  by0 := by decide
  hu := Tryz.underlying67
  info := infoSt
  zc := rfl
def KI : RK Tryz.prog Int where
  enc x := [.int .i64 x]
  n := 1
  te := 3
  ts := 35
  bytes := 8
  z := .int .i64 0
  len _ := rfl
  one x u hu := by simp only [List.mem_cons, List.not_mem_nil, or_false] at hu; rw [hu]; rfl
  pos := by decide
  by0 := by decide
  hu := Tryz.underlying35
  info := infoIt
  zc := rfl
theorem kicells : ∀ l : List Int, KI.cells l = icells l
  | [] => rfl
  | x :: r => by rw [show KI.cells (x :: r) = KI.enc x ++ KI.cells r from rfl, kicells r]; rfl
theorem qi_of {w : World} {B : Nat} {v : Value} {l : List Int} (h : OwR KI w B v l) : QI w B v l := by
  unfold OwR at h
  rw [kicells] at h
  exact QR.of_own h
theorem ks_at {w : World} {B g n cap : Nat} {l : List RS} (h : OwR KS w B (.slice (some ⟨g, 0, none⟩) n cap) l) {i : Nat} {x : RS} (hi : l[i]? = some x) : w.cell? ⟨g, i, none⟩ = some (.string ⟨x.toArray⟩) ∧ ∀ o, w.frozen? ⟨g, o, none⟩ = false := by
  obtain ⟨g', cap', e, -, -, -, -, hc, hf⟩ := OwR.at h hi
  injection e with e1 e2 e3
  injection e1 with e1
  injection e1 with e1
  subst e1
  have := hc 0 _ rfl
  rw [show i * KS.n + 0 = i by show i * 1 + 0 = i; omega] at this
  exact ⟨this, hf⟩
theorem ks_set {w : World} {B g n cap : Nat} {l : List RS} (h : OwR KS w B (.slice (some ⟨g, 0, none⟩) n cap) l) {i : Nat} (hil : i < l.length) (x : RS) :
    OwR KS (w.setCell ⟨g, i, none⟩ (.string ⟨x.toArray⟩)) B (.slice (some ⟨g, 0, none⟩) n cap) (l.set i x) := by
  rcases h.cases with ⟨e, -⟩ | ⟨g1, cap1, cur, e, hb, h2, h3, h4, h5, h6⟩
  · cases e
  · injection e with e1 e2 e3
    injection e1 with e1
    injection e1 with e1
    subst e1
    have hn1 : KS.n = 1 := rfl
    rw [hn1] at h5 h6
    rw [Nat.mul_one] at h5 h6
    refine OwR.upd h h2 (cur' := cur.set i (.string ⟨x.toArray⟩)) ?_ (by simp) (by simp) ?_
    · rw [heap_setCell_same w g i _ _ _ h2]
      congr 2
      simp
    · intro q j y hy hj
      rw [hn1] at hj ⊢
      obtain rfl : j = 0 := by omega
      rw [Nat.mul_one, Nat.add_zero]
      rw [List.getElem?_set] at hy ⊢
      by_cases hq : i = q
      · subst hq
        rw [if_pos rfl, if_pos hil] at hy
        injection hy with hy
        subst hy
        rw [if_pos rfl, if_pos (by omega)]
        rfl
      · rw [if_neg hq] at hy ⊢
        have := KS.cells_at l q 0 y hy (by decide)
        rw [hn1, Nat.mul_one, Nat.add_zero, ← h6, List.getElem?_take] at this
        rw [← this, if_pos (List.getElem?_eq_some_iff.1 hy).1]
theorem OwR.apart {P : Program} {α β : Type} {K : RK P α} {K' : RK P β} {w : World} {B B' : Nat} {v v' : Value} {l : List α} {l' : List β} (h : OwR K w B v l) (h' : OwR K' w B' v' l') (ne : K.te ≠ K'.te) {k : Nat} (e : v.ownBlock = some k) : v'.ownBlock ≠ some k := fun e' => by
  obtain ⟨-, -, cur, e2⟩ := h.lt e
  obtain ⟨-, -, cur', e3⟩ := h'.lt e'
  rw [e2] at e3
  injection e3 with e3
  injection e3 with _ e3
  exact ne e3
section
variable {w wx wy : World} {B b p : Nat} {vh0 vw0 vh vw vh' vw' tv tv' lv lv' ov ov' : Value} {H H' : List Lv} {W W' : List Wv} {L L' : List RS} {G G' : List Lv} {out out' : List Int} {x : Lv}
theorem RfM.off {P : Program} {α : Type} {K : RK Tryz.prog α} {l : List α} {v : Value} {B' : Nat} (h : RfM w B b vh vw H W) (h' : OwR K w B' v l) (n1 : K.te ≠ 30) (n2 : K.te ≠ 42) (n3 : K.te ≠ 66) {k : Nat} (e : v.ownBlock = some k) : ¬ blkD b vh vw k := by
  rintro (rfl | e1 | e1)
  · obtain ⟨-, -, cur, e2⟩ := h'.lt e
    rw [h.hd] at e2
    injection e2 with e2
    injection e2 with _ e2
    exact n1 e2.symm
  · exact h'.apart h.oh n2 e e1
  · exact h'.apart h.ow n3 e e1
/-- while somebody gives up: the rows that the call made (things, locks of others, who is granted), and the wish's box -/
structure Dr1 (w wx : World) (p : Nat) (x : Lv) (tv : Value) (L : List RS) (lv : Value) (G : List Lv) (ov : Value) : Prop where
  bel : Below w.heap.size w wx
  th : OwR KS wx w.heap.size tv L
  le : OwR KL wx w.heap.size lv G
  ou : OwR KI wx w.heap.size ov []
  bx : BxL wx p x
  np : ∀ k, lv.ownBlock = some k → k ≠ p
theorem Dr1.below (h : Dr1 w wx p x tv L lv G ov) (hb : Below wx.heap.size wx wy) : Dr1 w wy p x tv L lv G ov := ⟨h.bel.trans (hb.mono h.bel.size), h.th.below hb, h.le.below hb, h.ou.below hb, h.bx.below hb, h.np⟩
theorem Dr1.kind (h : Dr1 w wx p x tv L lv G ov) {k : Nat} (e : tv.ownBlock = some k) : k ≠ p := by
  rintro rfl
  obtain ⟨-, -, cur, e2⟩ := h.th.lt e
  rw [h.bx.hd] at e2
  injection e2 with e2
  injection e2 with _ e2
  exact absurd e2 (by decide)
/-- the things' row turned or grew -/
theorem Dr1.things (h : Dr1 w wx p x tv L lv G ov) (ho : OwR KS wy w.heap.size tv' L') (hf : Frm (fun k => tv.ownBlock = some k) wx wy) : Dr1 w wy p x tv' L' lv G ov :=
  ⟨(Frm.trans (F := fun k => w.heap.size ≤ k) (Frm.of_below h.bel) hf (fun k hk => .inl (h.th.lt hk).1)).below (fun k hk => hk) (Nat.le_refl _), ho, h.le.step hf (fun k e c => h.th.apart h.le (by decide) c e), h.ou.step hf (fun k e c => h.th.apart h.ou (by decide) c e), h.bx.step hf (fun c => h.kind c rfl), h.np⟩
theorem Dr1.left (h : Dr1 w wx p x tv L lv G ov) (ho : OwR KL wy w.heap.size lv' G') (hg : wx.grownBy wy lv.ownBlock) (hn : NewR wx lv lv') : Dr1 w wy p x tv L lv' G' ov := by
  have hf : Frm (fun k => lv.ownBlock = some k) wx wy := Frm.grown (F := fun k => lv.ownBlock = some k) (Frm.refl _ wx) hg (fun k hk => .inl hk)
  refine ⟨(Frm.trans (F := fun k => w.heap.size ≤ k) (Frm.of_below h.bel) hf (fun k hk => .inl (h.le.lt hk).1)).below (fun k hk => hk) (Nat.le_refl _), h.th.step hf (fun k e c => h.th.apart h.le (by decide) e c), ho, h.ou.step hf (fun k e c => h.le.apart h.ou (by decide) c e), h.bx.step hf (fun c => h.np p c rfl), fun k e c => ?_⟩
  rcases hn k e with q | q
  · exact h.np k q c
  · have := h.bx.lt; omega
/-- behind that: the table, the things, who is granted -/
structure DrS (w wx : World) (B b : Nat) (vh0 vw0 vh vw : Value) (H : List Lv) (W : List Wv) (tv : Value) (L : List RS) (ov : Value) (out : List Int) : Prop where
  m : RfM wx B b vh vw H W
  fr : Frm (blkD b vh0 vw0) w wx
  nw : New w (blkD b vh0 vw0) (blkD b vh vw)
  th : OwR KS wx w.heap.size tv L
  ou : OwR KI wx w.heap.size ov out
theorem Dr1.store (h : Dr1 w wx p x tv L lv G ov) (hm : RfM w B b vh0 vw0 H W) (hB : B ≤ w.heap.size) : DrS w (wx.setCell ⟨b, 0, none⟩ lv) B b vh0 vw0 lv vw0 G W tv L ov [] := by
  have h1 := hm.below h.bel
  have hf : Frm (fun k => k = b) wx (wx.setCell ⟨b, 0, none⟩ lv) := Frm.set1 (F := fun k => k = b) wx rfl _ _
  refine ⟨h1.setH (h.le.le hB), (Frm.of_below h.bel).trans (Frm.set1 (F := blkD b vh0 vw0) wx (.inl rfl) _ _) (New.refl _ _), fun k hk => ?_, h.th.step hf (fun k e c => h1.off (P := Tryz.prog) h.th (by decide) (by decide) (by decide) e (.inl c)), h.ou.step hf (fun k e c => h1.off (P := Tryz.prog) h.ou (by decide) (by decide) (by decide) e (.inl c))⟩
  rcases hk with e | e | e
  · exact .inl (.inl e)
  · exact .inr (h.le.lt e).1
  · exact .inl (.inr (.inr e))
theorem DrS.below (h : DrS w wx B b vh0 vw0 vh vw H W tv L ov out) (hb : Below wx.heap.size wx wy) : DrS w wy B b vh0 vw0 vh vw H W tv L ov out := ⟨h.m.below hb, h.fr.step hb, h.nw, h.th.below hb, h.ou.below hb⟩
theorem DrS.went (h : DrS w wx B b vh0 vw0 vh vw H W tv L ov out) (hg : WentD wx wy B b vh vw H' W') : ∃ vh' vw', DrS w wy B b vh0 vw0 vh' vw' H' W' tv L ov out ∧ Frm (blkD b vh vw) wx wy ∧ New wx (blkD b vh vw) (blkD b vh' vw') := by
  obtain ⟨vh', vw', hM, hf, hn⟩ := hg
  exact ⟨vh', vw', ⟨hM, h.fr.trans hf h.nw, fun k hk => (hn k hk).elim (h.nw k) (fun e => .inr (Nat.le_trans h.fr.size e)), h.th.step hf (fun k e => h.m.off (P := Tryz.prog) h.th (by decide) (by decide) (by decide) e), h.ou.step hf (fun k e => h.m.off (P := Tryz.prog) h.ou (by decide) (by decide) (by decide) e)⟩, hf, hn⟩
theorem DrS.push (h : DrS w wx B b vh0 vw0 vh vw H W tv L ov out) (ho : OwR KI wy w.heap.size ov' out') (hg : wx.grownBy wy ov.ownBlock) : DrS w wy B b vh0 vw0 vh vw H W tv L ov' out' := by
  have hf : Frm (fun k => ov.ownBlock = some k) wx wy := Frm.grown (F := fun k => ov.ownBlock = some k) (Frm.refl _ wx) hg (fun k hk => .inl hk)
  exact ⟨h.m.step hf (fun k hk c => h.m.off (P := Tryz.prog) h.ou (by decide) (by decide) (by decide) c hk), h.fr.grown hg (fun k e => .inr (h.ou.lt e).1), h.nw, h.th.step hf (fun k e c => h.th.apart h.ou (by decide) e c), ho⟩
end
/-- a thing put where it belongs, told by its place -/
theorem ins_at (s : RS) : ∀ (L : List RS) (k : Nat), (∀ x ∈ L.take k, ordT.lt s x = false) → (∀ x ∈ L.drop k, ordT.lt s x = true) → insR ordT s L = L.take k ++ s :: L.drop k
  | [], k, _, _ => by simp [insR]
  | x :: r, 0, _, h2 => by
    have a := h2 x (by simp)
    simp [insR, a]
  | x :: r, k + 1, h1, h2 => by
    have a := h1 x (by simp)
    have := ins_at s r k (fun y hy => h1 y (by simp [hy])) (fun y hy => h2 y (by simpa using hy))
    simp [insR, a, this]
theorem ins_rest {L : List RS} {s : RS} {k : Nat} (hkl : k ≤ L.length) (hs : L.Pairwise fun a b => ordT.lt a b = true) (hd : ∀ x ∈ L.drop k, ordT.lt s x = true) (hk : ∀ y, k ≠ 0 → L[k - 1]? = some y → ordT.lt s y = false) : insR ordT s L = L.take k ++ s :: L.drop k := by
  refine ins_at s L k (fun x hx => ?_) hd
  cases c : ordT.lt s x with
  | false => rfl
  | true =>
    obtain ⟨i, hi⟩ := List.getElem?_of_mem hx
    rw [List.getElem?_take] at hi
    split at hi
    · have hil := (List.getElem?_eq_some_iff.1 hi).1
      by_cases e : i = k - 1
      · have := hk x (by omega) (by rw [← e]; exact hi)
        rw [this] at c; cases c
      · have hkl2 : k - 1 < L.length := by omega
        have hp := List.pairwise_iff_getElem.1 hs i (k - 1) hil hkl2 (by omega)
        rw [List.getElem?_eq_getElem hil] at hi
        injection hi with hi
        rw [hi] at hp
        have := hk _ (by omega) (List.getElem?_eq_getElem hkl2)
        rw [ordT.tr _ _ _ c hp] at this
        cases this
    · cases hi
/-- one's things, the others' locks -/
def ownT (H : List Lv) (t : Int) : List RS := (H.filter fun h => decide (h.txn = t)).map fun h => h.res
def othL (H : List Lv) (t : Int) : List Lv := H.filter fun h => !decide (h.txn = t)
theorem ownT_yes {H : List Lv} {t : Int} {j : Nat} {x : Lv} (hx : H[j]? = some x) (h : x.txn = t) : ownT (H.take (j + 1)) t = ownT (H.take j) t ++ [x.res] ∧ othL (H.take (j + 1)) t = othL (H.take j) t := by
  unfold ownT othL
  rw [List.take_add_one, hx, List.filter_append, List.map_append, List.filter_append]
  simp [h]
theorem ownT_no {H : List Lv} {t : Int} {j : Nat} {x : Lv} (hx : H[j]? = some x) (h : x.txn ≠ t) : ownT (H.take (j + 1)) t = ownT (H.take j) t ∧ othL (H.take (j + 1)) t = othL (H.take j) t ++ [x] := by
  unfold ownT othL
  rw [List.take_add_one, hx, List.filter_append, List.map_append, List.filter_append]
  simp [h]
theorem ownT_len (H : List Lv) (t : Int) : (ownT H t).length ≤ H.length := by unfold ownT; rw [List.length_map]; exact List.length_filter_le _ _
theorem othL_len (H : List Lv) (t : Int) : (othL H t).length ≤ H.length := List.length_filter_le _ _
theorem ownT_srt {H : List Lv} (hs : SrtL ordT H) (t : Int) : (ownT H t).Pairwise fun a b => ordT.lt a b = true := by
  unfold ownT
  rw [List.pairwise_map]
  refine List.Pairwise.imp_of_mem ?_ (List.Pairwise.filter _ hs)
  intro a c ha hc hac
  have e1 : a.txn = t := by simpa using (List.mem_filter.1 ha).2
  have e2 : c.txn = t := by simpa using (List.mem_filter.1 hc).2
  rcases hac with g | ⟨_, g⟩
  · exact g
  · omega

end Go.Proofs.YtelfinhpjokmdaaGreatDoor

namespace Go.Proofs.YtelfinhpjokmdaaGreatDoor
set_option maxRecDepth 100000
open Go.RowKit Go.Joins Go.ChangeShapes Go.WideShapes
open Go.MapKept
set_option linter.unusedVariables false
set_option linter.unnecessarySimpa false
set_option linter.unusedSimpArgs false

theorem off_went {P : Program} {α : Type} {K : RK P α} {wx wy : World} {B' b : Nat} {v vh vw vh' vw' : Value} {l : List α} (hq : OwR K wx B' v l) (ho : ∀ k, v.ownBlock = some k → ¬ blkD b vh vw k) (hf : Frm (blkD b vh vw) wx wy) (hn : New wx (blkD b vh vw) (blkD b vh' vw')) :
    OwR K wy B' v l ∧ ∀ k, v.ownBlock = some k → ¬ blkD b vh' vw' k :=
  ⟨hq.step hf ho, fun k e c => (hn k c).elim (ho k e) (fun g => by have := (hq.lt e).2.1; omega)⟩
theorem stl_yes {l : Lv} {q : List Lv} {T : TbL RS} {o : List Int} (h : can mds T.hv l = true) : stl ordT mds (l :: q) T o = stl ordT mds q ⟨gv ordT l T.hv, fgt T.wt l.txn⟩ (o ++ [l.txn]) := by
  rw [stl, if_pos h]
theorem stl_no {l : Lv} {q : List Lv} {T : TbL RS} {o : List Int} (h : can mds T.hv l = false) : stl ordT mds (l :: q) T o = (T, o) := by
  rw [stl, if_neg (by rw [h]; simp)]
theorem stl_end (T : TbL RS) (o : List Int) : stl ordT mds [] T o = (T, o) := rfl
def foldD (ths : List RS) (p : TbL RS × List Int) : TbL RS × List Int := ths.foldl (fun p s => stl ordT mds (que p.1.wt s) p.1 p.2) p
theorem foldD_cons (s : RS) (r : List RS) (T : TbL RS) (o : List Int) : foldD (s :: r) (T, o) = foldD r (stl ordT mds (que T.wt s) T o) := rfl
theorem foldD_nil (p : TbL RS × List Int) : foldD [] p = p := rfl
theorem thg_no {T : TbL RS} {t : Int} (h : (wsh T.wt t).isSome = false) : thg ordT T t = ownT T.hv t := by
  unfold thg
  cases e : wsh T.wt t with
  | none => rfl
  | some l => rw [e] at h; cases h
theorem thg_had {T : TbL RS} {t : Int} (h : mdO T.hv t ((wsh T.wt t).getD zL).res ≠ 0) : thg ordT T t = ownT T.hv t := by
  unfold thg
  cases e : wsh T.wt t with
  | none => rfl
  | some l =>
    rw [e] at h
    replace h : mdO T.hv t l.res ≠ 0 := h
    show (if mdO T.hv t l.res = 0 then _ else _) = _
    rw [if_neg h]
    rfl
theorem thg_new {T : TbL RS} {t : Int} (h0 : (wsh T.wt t).isSome = true) (h : mdO T.hv t ((wsh T.wt t).getD zL).res = 0) : thg ordT T t = insR ordT ((wsh T.wt t).getD zL).res (ownT T.hv t) := by
  unfold thg
  cases e : wsh T.wt t with
  | none => rw [e] at h0; cases h0
  | some l =>
    rw [e] at h
    replace h : mdO T.hv t l.res = 0 := h
    show (if mdO T.hv t l.res = 0 then _ else _) = _
    rw [if_pos h]
    rfl
set_option maxHeartbeats 40000000 in
theorem rdrop_any {w : World} {B b : Nat} {vh vw : Value} {T : TbL RS} (h : RfM w B b vh vw T.hv T.wt) (hi : InvL ordT mds T) (hZ : sizT T ≤ 1000000) (hB : B ≤ w.heap.size) (t : Int) :
    Calls Tryz.prog 10 #[.pointer (some ⟨b, 0, none⟩), .int .i64 t] w fun e w' => ∃ v, e = .returned v ∧ OwR KI w' w.heap.size v (dropL ordT mds T t).2 ∧ WentD w w' B b vh vw (dropL ordT mds T t).1.hv (dropL ordT mds T t).1.wt := by
  obtain ⟨ha, hc, hhe, hhc, hhm⟩ := h.oh.sl
  obtain ⟨n, hn⟩ : ∃ n, T.hv.length = n := ⟨_, rfl⟩
  rw [hn] at hhe hhc
  subst hhe
  have HN := Lib.hid hn
  have hn9 : n ≤ 1000000 := by unfold sizT at hZ; omega
  have HZ := Lib.hid hZ
  have HI := Lib.hid hi
  have HM := Lib.hid h
  have HB0 := Lib.hid hB
  generalize hP : (fun (e : Ending) (w' : World) => ∃ v, e = .returned v ∧ OwR KI w' w.heap.size v (dropL ordT mds T t).2 ∧ WentD w w' B b (.slice ha n hc) vw (dropL ordT mds T t).1.hv (dropL ordT mds T t).1.wt) = P
  have HP := Lib.hid hP
  obtain ⟨W1, hW1⟩ : ∃ W1, w.alloc (.cells #[] 9) = W1 := ⟨_, rfl⟩
  obtain ⟨W2, hW2⟩ : ∃ W2, W1.alloc (.cells #[] 42) = W2 := ⟨_, rfl⟩
  obtain ⟨W3, hW3⟩ : ∃ W3, W2.alloc (.cells #[] 3) = W3 := ⟨_, rfl⟩
  have hb1 : Below w.heap.size w W1 := by rw [← hW1]; exact (Below.refl _ _).alloc (Nat.le_refl _) _
  have hb2 : Below W1.heap.size W1 W2 := by rw [← hW2]; exact (Below.refl _ _).alloc (Nat.le_refl _) _
  have hb3 : Below W2.heap.size W2 W3 := by rw [← hW3]; exact (Below.refl _ _).alloc (Nat.le_refl _) _
  have hs1 : W1.heap.size = w.heap.size + 1 := by rw [← hW1]; simp
  have hs2 : W2.heap.size = w.heap.size + 1 + 1 := by rw [← hW2]; simp [hs1]
  have HB3 := Lib.hid ((hb1.trans (hb2.mono hb1.size)).trans (hb3.mono (Nat.le_trans hb1.size hb2.size)))
  obtain ⟨tv0, htv0⟩ : ∃ v, Value.slice (some ⟨w.heap.size, 0, none⟩) 0 0 = v := ⟨_, rfl⟩
  obtain ⟨lv0, hlv0⟩ : ∃ v, Value.slice (some ⟨w.heap.size + 1, 0, none⟩) 0 0 = v := ⟨_, rfl⟩
  obtain ⟨ov0, hov0⟩ : ∃ v, Value.slice (some ⟨w.heap.size + 1 + 1, 0, none⟩) 0 0 = v := ⟨_, rfl⟩
  have HR0 := Lib.hid (show OwR KS W3 w.heap.size tv0 [] ∧ OwR KL W3 w.heap.size lv0 [] ∧ OwR KI W3 w.heap.size ov0 [] by
    refine ⟨?_, ?_, ?_⟩
    · rw [← htv0]
      exact ((show OwR KS W1 w.heap.size (.slice (some ⟨w.heap.size, 0, none⟩) 0 0) [] by rw [← hW1]; exact OwR.made (K := KS) w (Nat.le_refl _) [] (by decide)).below hb2).below hb3
    · rw [← hlv0, ← hs1]
      exact (show OwR KL W2 w.heap.size (.slice (some ⟨W1.heap.size, 0, none⟩) 0 0) [] by rw [← hW2]; exact OwR.made (K := KL) W1 hb1.size [] (by decide)).below hb3
    · rw [← hov0, ← hs2, ← hW3]
      exact OwR.made (K := KI) W2 (Nat.le_trans hb1.size hb2.size) [] (by decide))
  have HW := Lib.hid (rwish_any (HM.out.below HB3.out) t)
  have HLV := Lib.hid (show ∀ k, lv0.ownBlock = some k → k < W3.heap.size from fun k e => (HR0.out.2.1.lt e).2.1)
  clear h hn hhc hhm hZ hi hB hP hb1 hb2 hb3
  go_enter Tryz.func10, Tryz.ntmps10
  go_upto_region 2 with fail
  try rw [hW1, hW2, hW3]
  try rw [htv0]
  try rw [hlv0]
  try rw [hov0]
  clear hW1 hW2 hW3 hs1 hs2
  go_wp2_with fail
  refine HW.out.mono ?_
  rintro e w4 ⟨rfl, hb4⟩
  obtain ⟨q, hq⟩ : ∃ q, (wsh T.wt t).getD zL = q := ⟨_, rfl⟩
  obtain ⟨is, his⟩ : ∃ is, (wsh T.wt t).isSome = is := ⟨_, rfl⟩
  rw [hq, his]
  unfold encL
  obtain ⟨W5, hW5⟩ : ∃ W5, w4.alloc (.cells #[.int .i64 q.txn, .string ⟨q.res.toArray⟩, .int .i64 q.mode] 42) = W5 := ⟨_, rfl⟩
  have hb5 : Below W3.heap.size W3 W5 := by rw [← hW5]; exact hb4.alloc hb4.size _
  obtain ⟨p, hp⟩ : ∃ p, w4.heap.size = p := ⟨_, rfl⟩
  have HD0 := Lib.hid (show Dr1 w W5 p q tv0 (ownT (T.hv.take 0) t) lv0 (othL (T.hv.take 0) t) ov0 from
    ⟨HB3.out.trans (hb5.mono HB3.out.size), HR0.out.1.below hb5, HR0.out.2.1.below hb5, HR0.out.2.2.below hb5, by rw [← hW5, ← hp]; exact bxL_new w4 q, fun k e c => by
      have h1 := HLV.out k e
      have h2 := hb4.size
      omega⟩)
  have HQ := Lib.hid hq
  have HIS := Lib.hid his
  clear hq his hb4 hb5 HW HR0 HLV htv0 hlv0 hov0
  go_upto_region 3 with fail
  try rw [hW5]
  try rw [hp]
  clear hW5 hp
  go_wp2_with fail
  go_loopw [5, 6, 10] (fun v5 v6 i wx => ∃ j : Nat, j ≤ n ∧ i = .int .i64 j ∧ Hid (Dr1 w wx p q v5 (ownT (T.hv.take j) t) v6 (othL (T.hv.take j) t) ov0)) (fun _ _ i _ => n - (intOf i).toNat)
  case atStart => exact ⟨0, Nat.zero_le _, rfl, HD0⟩
  case round =>
    clear HD0
    obtain ⟨j, hj, rfl, HD⟩ := hrel
    have hM := HM.out.below HD.out.bel
    obtain ⟨c0, -, cf0⟩ := hM.cells
    by_cases cj : j < n
    · have cj1 : (j : Int) < (n : Int) := by omega
      obtain ⟨x, hx⟩ : ∃ x, T.hv[j]? = some x := ⟨_, List.getElem?_eq_getElem (by rw [HN.out]; exact cj)⟩
      obtain ⟨g, rfl, -, -, -⟩ := hM.oh.blk (i := j) (by rw [HN.out]; exact cj)
      obtain ⟨x0, x1, x2, -⟩ := kl_at hM.oh hx
      have hjw : IntKind.i64.wrap ((j : Int) + 1) = ((j + 1 : Nat) : Int) := by rw [IntWalk.i64_in _ (by omega)]; omega
      have HXX := Lib.hid hx
      have HTL := Lib.hid (show (T.hv.take j).length ≤ 1000000 by rw [List.length_take]; omega)
      clear hx cf0
      by_cases e1 : x.txn = t
      · have HO := Lib.hid (ownT_yes HXX.out e1)
        have e1b : (x.txn == t) = true := by simp [e1]
        have hbC : Below wr.heap.size wr (wr.alloc (.cells #[.string ⟨x.res.toArray⟩] 9)) := (Below.refl _ _).alloc (Nat.le_refl _) _
        have HDC := Lib.hid (HD.out.below hbC)
        have HNW := Lib.hid (one_new KS wr x.res #[.string ⟨x.res.toArray⟩] rfl)
        have HSZ := Lib.hid HDC.out.bel.size
        have HLN := Lib.hid (show (ownT (T.hv.take j) t).length + 1 ≤ 4294967297 by have := ownT_len (T.hv.take j) t; have := HTL.out; omega)
        clear hbC hM
        go_wp2_with (first | (at_builtin; refine OwR.wp (K := KS) rfl _ _ rfl w.heap.size u5 _ rfl HDC.out.th HSZ.out ⟨_, 0, none⟩ 1 _ [x.res] rfl rfl HNW.out HLN.out ?_; intro v' w6 q6 g6 n6; have HK6 := Lib.hid (HDC.out.things q6 (Frm.grown (F := fun k => u5.ownBlock = some k) (Frm.refl _ _) g6 (fun k hk => .inl hk))); clear q6 g6 n6))
        rw [← HO.out.1, ← HO.out.2] at HK6
        go_roundw
        case rel => exact ⟨j + 1, by omega, by first | rfl | go_num, HK6⟩
        case measure => simp [intOf]; omega
      · have HO := Lib.hid (ownT_no HXX.out e1)
        have e1b : (x.txn == t) = false := by simp [e1]
        have hbC : Below wr.heap.size wr (wr.alloc (.cells #[.int .i64 x.txn, .string ⟨x.res.toArray⟩, .int .i64 x.mode] 42)) := (Below.refl _ _).alloc (Nat.le_refl _) _
        have HDC := Lib.hid (HD.out.below hbC)
        have HNW := Lib.hid (one_new KL wr x #[.int .i64 x.txn, .string ⟨x.res.toArray⟩, .int .i64 x.mode] rfl)
        have HSZ := Lib.hid HDC.out.bel.size
        have HLN := Lib.hid (show (othL (T.hv.take j) t).length + 1 ≤ 4294967297 by have := othL_len (T.hv.take j) t; have := HTL.out; omega)
        clear hbC hM
        go_wp2_with (first | (at_builtin; refine OwR.wp (K := KL) rfl _ _ rfl w.heap.size u6 _ rfl HDC.out.le HSZ.out ⟨_, 0, none⟩ 1 _ [x] rfl rfl HNW.out HLN.out ?_; intro v' w6 q6 g6 n6; have HK6 := Lib.hid (HDC.out.left q6 g6 n6); clear q6 g6 n6))
        rw [← HO.out.1, ← HO.out.2] at HK6
        go_roundw
        case rel => exact ⟨j + 1, by omega, by first | rfl | go_num, HK6⟩
        case measure => simp [intOf]; omega
    · obtain rfl : j = n := by omega
      have cf : decide ((j : Int) < (j : Int)) = false := by simp
      have HD1 := Lib.hid (show Dr1 w wr p q u5 (ownT T.hv t) u6 (othL T.hv t) ov0 by
        have := HD.out
        rw [List.take_of_length_le (Nat.le_of_eq HN.out)] at this
        exact this)
      clear HD
      obtain ⟨ta, tc, hte, htc, htm⟩ := HD1.out.th.sl
      obtain ⟨nt, hnt⟩ : ∃ nt, (ownT T.hv t).length = nt := ⟨_, rfl⟩
      rw [hnt] at hte htc
      subst hte
      obtain ⟨la, lc, hle, -, -⟩ := HD1.out.le.sl
      obtain ⟨nl, hnl⟩ : ∃ nl, (othL T.hv t).length = nl := ⟨_, rfl⟩
      rw [hnl] at hle
      subst hle
      have HNT := Lib.hid (show (ownT T.hv t).length = nt ∧ nt ≤ 1000000 from ⟨hnt, by have := ownT_len T.hv t; have := HN.out; omega⟩)
      have hnt9 := HNT.out.2
      have cf1 := cf0 0
      clear hnt hnl htc htm cf0
      cases is with
      | false =>
        have HTH := Lib.hid (show thg ordT T t = ownT T.hv t from thg_no HIS.out)
        have HS0 := Lib.hid ((HD1.out).store HM.out HB0.out)
        have HFG := Lib.hid (rforget_any (HS0.out).m (by have := HZ.out; unfold sizT at this; omega) (Nat.le_trans HB0.out (HS0.out).fr.size) t)
        have HNTL := Lib.hid (show (ownT T.hv t).length = nt from by have e := (HD1.out).th.sl; obtain ⟨_, _, e, -, -⟩ := e; injection e with _ e _; exact e.symm)
        have hnz : nt ≤ 1000001 := by have h1 := HNTL.out; have h2 := HNT.out; first | omega | (have h3 := HMM.out; omega)
        clear hM
        go_wp2_with fail
        refine (HFG.out).mono ?_
        rintro e w9 ⟨rfl, hg9⟩
        obtain ⟨vh9, vw9, hD9, -, -⟩ := (HS0.out).went hg9
        have HS9 := Lib.hid (show DrS w w9 B b (.slice ha j hc) vw vh9 vw9 (outL T t).hv (outL T t).wt (.slice ta nt tc) (ownT T.hv t) ov0 [] from hD9)
        have HBS := Lib.hid (InvL.out ordT mds HI.out t)
        have HFD := Lib.hid (show foldD ((ownT T.hv t).drop 0) (outL T t, []) = dropL ordT mds T t by rw [List.drop_zero, ← HTH.out]; rfl)
        have HSZ9 := Lib.hid (show sizT (outL T t) ≤ 1000000 ∧ ([] : List Int).length + (outL T t).wt.length ≤ 1000000 by
          have h0 := HZ.out
          have h1 := othL_len T.hv t
          have h2 := fgt_len T.wt t
          unfold sizT at h0
          show (othL T.hv t).length + (fgt T.wt t).length ≤ 1000000 ∧ 0 + (fgt T.wt t).length ≤ 1000000
          omega)
        obtain ⟨T0, hT0⟩ : ∃ T0, outL T t = T0 := ⟨_, rfl⟩
        rw [hT0] at HS9 HBS HFD HSZ9
        clear hD9 hg9 HFG HS0 hT0
        go_wp2_with fail
        go_loopw [7, 13] (fun v7 i wx => ∃ (kk : Nat) (vh' vw' : Value) (Tk : TbL RS) (ok : List Int), kk ≤ nt ∧ i = .int .i64 kk ∧ Hid (DrS w wx B b (.slice ha j hc) vw vh' vw' Tk.hv Tk.wt (.slice ta nt tc) (ownT T.hv t) v7 ok) ∧ Hid (BasL ordT mds Tk) ∧ Hid (foldD ((ownT T.hv t).drop kk) (Tk, ok) = dropL ordT mds T t) ∧ Hid (sizT Tk ≤ 1000000 ∧ ok.length + Tk.wt.length ≤ 1000000)) (fun _ i _ => nt - (intOf i).toNat)
        case atStart => exact ⟨0, vh9, vw9, T0, [], Nat.zero_le _, rfl, HS9, HBS, HFD, HSZ9⟩
        case round =>
          clear HS9 HBS HFD HSZ9
          obtain ⟨kk, vhk, vwk, Tk, ok, hk, rfl, HS, HBS, HFD, HZK⟩ := hrel
          by_cases ck : kk < nt
          · have ck1 : (kk : Int) < (nt : Int) := by omega
            obtain ⟨s, hs⟩ : ∃ s, (ownT T.hv t)[kk]? = some s := ⟨_, List.getElem?_eq_getElem (by rw [HNTL.out]; exact ck)⟩
            obtain ⟨gt, rfl, -, -, -⟩ := HS.out.th.blk (i := kk) (by rw [HNTL.out]; exact ck)
            obtain ⟨s0, -⟩ := ks_at HS.out.th hs
            have hkw : IntKind.i64.wrap ((kk : Int) + 1) = ((kk + 1 : Nat) : Int) := by rw [IntWalk.i64_in _ (by omega)]; omega
            have HQU := Lib.hid (rqueue_any HS.out.m (by have := HZK.out.1; unfold sizT at this; omega) s)
            have HFK := Lib.hid (show foldD ((ownT T.hv t).drop (kk + 1)) (stl ordT mds (que Tk.wt s) Tk ok) = dropL ordT mds T t by
              have := HFD.out
              rw [drop_at hs, foldD_cons] at this
              exact this)
            clear hs HFD
            go_wp2_with fail
            refine HQU.out.mono ?_
            rintro e w4 ⟨vq, rfl, hoq, hb4⟩
            obtain ⟨Q, hQ⟩ : ∃ Q, que Tk.wt s = Q := ⟨_, rfl⟩
            rw [hQ] at hoq HFK
            obtain ⟨qa, qc, hqe, -, -⟩ := hoq.sl
            obtain ⟨nq, hnq⟩ : ∃ nq, Q.length = nq := ⟨_, rfl⟩
            rw [hnq] at hqe
            subst hqe
            have HNQ := Lib.hid hnq
            have hnq9 : nq ≤ 1000000 := by
              have h1 := que_le Tk.wt s
              rw [hQ, hnq] at h1
              have := HZK.out.2
              omega
            have HWR := Lib.hid HS.out.fr.size
            have HS4 := Lib.hid (HS.out.below hb4)
            have HQ4 := Lib.hid (show OwR KL w4 wr.heap.size (.slice qa nq qc) Q ∧ ∀ k, (Value.slice qa nq qc).ownBlock = some k → ¬ blkD b vhk vwk k from
              ⟨hoq, fun k e c => by have h1 := (hoq.lt e).1; have h2 := (HS.out.m.blk c).2; omega⟩)
            have HQW4 := Lib.hid (show que Tk.wt s = Q.drop 0 from hQ)
            have HSTL4 := Lib.hid (show stl ordT mds (Q.drop 0) Tk ok = stl ordT mds Q Tk ok from rfl)
            clear hoq hb4 HQU hQ hnq HS s0
            go_wp2_with fail
            go_loopw [7, 15] (fun v7 i wx => ∃ (d : Nat) (vh' vw' : Value) (T' : TbL RS) (o' : List Int), d ≤ nq ∧ i = .int .i64 d ∧ Hid (DrS w wx B b (.slice ha j hc) vw vh' vw' T'.hv T'.wt (.slice (some ⟨gt, 0, none⟩) nt tc) (ownT T.hv t) v7 o') ∧ Hid (BasL ordT mds T') ∧ Hid (OwR KL wx w.heap.size (.slice qa nq qc) Q ∧ ∀ k, (Value.slice qa nq qc).ownBlock = some k → ¬ blkD b vh' vw' k) ∧ Hid (que T'.wt s = Q.drop d) ∧ Hid (stl ordT mds (Q.drop d) T' o' = stl ordT mds Q Tk ok) ∧ Hid (sizT T' ≤ 1000000 ∧ o'.length + T'.wt.length ≤ 1000000)) (fun _ i _ => nq - (intOf i).toNat)
            case atStart => exact ⟨0, vhk, vwk, Tk, ok, Nat.zero_le _, rfl, HS4, HBS, Lib.hid ⟨HQ4.out.1.le HWR.out, HQ4.out.2⟩, HQW4, HSTL4, HZK⟩
            case round =>
              clear HS4 HQ4 HQW4 HSTL4 HZK HBS
              obtain ⟨d, vhd, vwd, Td, od, hd, rfl, HS, HBS, HQR, HQW, HSTL, HZD⟩ := hrel
              by_cases cd : d < nq
              · have cd1 : (d : Int) < (nq : Int) := by omega
                obtain ⟨l, hl⟩ : ∃ l, Q[d]? = some l := ⟨_, List.getElem?_eq_getElem (by rw [HNQ.out]; exact cd)⟩
                obtain ⟨gq, rfl, -, -, -⟩ := HQR.out.1.blk (i := d) (by rw [HNQ.out]; exact cd)
                obtain ⟨l0, l1, l2, -⟩ := kl_at HQR.out.1 hl
                have hdw : IntKind.i64.wrap ((d : Int) + 1) = ((d + 1 : Nat) : Int) := by rw [IntWalk.i64_in _ (by omega)]; omega
                have HQC := Lib.hid (show que Td.wt s = l :: Q.drop (d + 1) by rw [HQW.out, drop_at hl])
                have HQS := Lib.hid (show stl ordT mds (l :: Q.drop (d + 1)) Td od = stl ordT mds Q Tk ok by rw [← drop_at hl]; exact HSTL.out)
                have hcn := rcan_any HS.out.m l
                unfold encL at hcn
                obtain ⟨cn, hcc⟩ : ∃ cn, can mds Td.hv l = cn := ⟨_, rfl⟩
                rw [hcc] at hcn
                have HCN := Lib.hid hcn
                have HCC := Lib.hid hcc
                have HL := Lib.hid hl
                clear hcn hcc hl HSTL HQW
                go_wp2_with fail
                refine HCN.out.mono ?_
                rintro e w5 ⟨rfl, hb5⟩
                have HS5 := Lib.hid (HS.out.below hb5)
                have HQ5 := Lib.hid (show OwR KL w5 w.heap.size (.slice (some ⟨gq, 0, none⟩) nq qc) Q from HQR.out.1.below hb5)
                have HQO := Lib.hid HQR.out.2
                clear hb5 HCN l0 l1 l2 HS HQR
                obtain ⟨l0, l1, l2, -⟩ := kl_at HQ5.out HL.out
                cases cn with
                | true =>
                  have HFO := Lib.hid (rforget_any HS5.out.m (by have := HZD.out.1; unfold sizT at this; omega) (Nat.le_trans HB0.out HS5.out.fr.size) l.txn)
                  go_wp2_with fail
                  refine HFO.out.mono ?_
                  rintro e w6 ⟨rfl, hg6⟩
                  obtain ⟨vh6, vw6, hS6, hf6, hn6⟩ := HS5.out.went hg6
                  have HS6 := Lib.hid hS6
                  have hq6 := off_went HQ5.out HQO.out hf6 hn6
                  have HQ6 := Lib.hid hq6.1
                  have HQO6 := Lib.hid hq6.2
                  have hgv := rgive_any HS6.out.m HBS.out.srt (by have := HZD.out.1; unfold sizT at this; omega) (Nat.le_trans HB0.out HS6.out.fr.size) l
                  unfold encL at hgv
                  have HGV := Lib.hid hgv
                  clear hS6 hf6 hn6 hq6 hgv hg6 HFO l0 l1 l2 HQ5 HQO
                  obtain ⟨l0, l1, l2, -⟩ := kl_at HQ6.out HL.out
                  go_wp2_with fail
                  refine HGV.out.mono ?_
                  rintro e w7 ⟨rfl, hg7⟩
                  obtain ⟨vh7, vw7, hS7, hf7, hn7⟩ := HS6.out.went hg7
                  have HS7 := Lib.hid hS7
                  have hq7 := off_went HQ6.out HQO6.out hf7 hn7
                  have HQ7 := Lib.hid hq7.1
                  have HQO7 := Lib.hid hq7.2
                  clear hS7 hf7 hn7 hq7 hg7 HGV l0 l1 l2 HQ6 HQO6 HS6
                  obtain ⟨l0, l1, l2, -⟩ := kl_at HQ7.out HL.out
                  have hbC : Below w7.heap.size w7 (w7.alloc (.cells #[.int .i64 l.txn] 3)) := (Below.refl _ _).alloc (Nat.le_refl _) _
                  have HSC := Lib.hid (HS7.out.below hbC)
                  have HQC7 := Lib.hid (HQ7.out.below hbC)
                  have HNW := Lib.hid (one_new KI w7 l.txn #[.int .i64 l.txn] rfl)
                  have HSZ := Lib.hid (show w.heap.size ≤ (w7.alloc (.cells #[.int .i64 l.txn] 3)).heap.size from HSC.out.fr.size)
                  have HLN := Lib.hid (show od.length + 1 ≤ 4294967297 by have := HZD.out.2; omega)
                  have HBG := Lib.hid (BasL.grant ordT mds HBS.out HQC.out HCC.out)
                  have HQG := Lib.hid (que_head HBS.out.one HQC.out)
                  have HSG := Lib.hid (show stl ordT mds (Q.drop (d + 1)) ⟨gv ordT l Td.hv, fgt Td.wt l.txn⟩ (od ++ [l.txn]) = stl ordT mds Q Tk ok by rw [← HQS.out, stl_yes HCC.out])
                  have HZG := Lib.hid (show sizT (⟨gv ordT l Td.hv, fgt Td.wt l.txn⟩ : TbL RS) ≤ 1000000 ∧ (od ++ [l.txn]).length + (fgt Td.wt l.txn).length ≤ 1000000 by
                    have h1 := siz_pop ordT HQC.out
                    obtain ⟨hr, u, hu, hul⟩ := mem_que.1 (show l ∈ que Td.wt s by rw [HQC.out]; exact List.mem_cons_self ..)
                    have h2 := fgt_length hu
                    rw [hul] at h2
                    have h3 := HZD.out
                    rw [List.length_append]
                    simp only [List.length_cons, List.length_nil]
                    omega)
                  clear hbC HQ7 HS7
                  go_wp2_with (first | (at_builtin; refine OwR.wp (K := KI) rfl _ _ rfl w.heap.size u7 _ rfl HSC.out.ou HSZ.out ⟨_, 0, none⟩ 1 _ [l.txn] rfl rfl HNW.out HLN.out ?_; intro v' w8 q8 g8 n8; have HK8 := Lib.hid (HSC.out.push q8 g8); have HQ8 := Lib.hid (show OwR KL w8 w.heap.size (.slice (some ⟨gq, 0, none⟩) nq qc) Q from HQC7.out.step (Frm.grown (F := fun k => u7.ownBlock = some k) (Frm.refl _ _) g8 (fun k hk => .inl hk)) (fun k e c => HSC.out.ou.apart HQC7.out (by decide) c e)); clear q8 g8 n8))
                  go_roundw
                  case rel => exact ⟨d + 1, vh7, vw7, ⟨gv ordT l Td.hv, fgt Td.wt l.txn⟩, od ++ [l.txn], by omega, by first | rfl | go_num, HK8, HBG, Lib.hid ⟨HQ8.out, HQO7.out⟩, HQG, HSG, HZG⟩
                  case measure => simp [intOf]; omega
                | false =>
                  have HFK2 := Lib.hid (show foldD ((ownT T.hv t).drop (kk + 1)) (Td, od) = dropL ordT mds T t by
                    have e := HQS.out
                    rw [stl_no HCC.out] at e
                    rw [e]; exact HFK.out)
                  go_wp2_with fail
                  go_roundw
                  case rel => exact ⟨kk + 1, vhd, vwd, Td, od, by omega, by first | rfl | go_num, HS5, HBS, HFK2, HZD⟩
                  case measure => simp [intOf]; omega
              · obtain rfl : d = nq := by omega
                have cfd : decide ((d : Int) < (d : Int)) = false := by simp
                have HFK2 := Lib.hid (show foldD ((ownT T.hv t).drop (kk + 1)) (Td, od) = dropL ordT mds T t by
                  have e := HSTL.out
                  rw [List.drop_eq_nil_of_le (Nat.le_of_eq HNQ.out), stl_end] at e
                  rw [e]; exact HFK.out)
                go_wp2_with fail
                go_roundw
                case rel => exact ⟨kk + 1, vhd, vwd, Td, od, by omega, by first | rfl | go_num, HS, HBS, HFK2, HZD⟩
                case measure => simp [intOf]; omega
          · obtain rfl : kk = nt := by omega
            have cfk : decide ((kk : Int) < (kk : Int)) = false := by simp
            have HF := Lib.hid (show P (.returned u7) wr by
              have e := HFD.out
              rw [List.drop_eq_nil_of_le (Nat.le_of_eq HNTL.out), foldD_nil] at e
              rw [← HP.out, ← e]
              exact ⟨u7, rfl, HS.out.ou, vhk, vwk, HS.out.m, HS.out.fr, HS.out.nw⟩)
            go_wp2_with fail
            first | exact HF.out | simpa using HF.out
      | true =>
        have HMD := Lib.hid (rmode_any hM t q.res)
        obtain ⟨md, hmd⟩ : ∃ md, mdO T.hv t q.res = md := ⟨_, rfl⟩
        rw [hmd] at HMD
        have HMD0 := Lib.hid hmd
        obtain ⟨k0, k1, k2⟩ := HD1.out.bx.cells
        clear hmd k0 k2
        go_wp2_with fail
        refine HMD.out.mono ?_
        rintro e w7 ⟨rfl, hw7⟩
        rw [hw7]
        clear hw7 HMD
        by_cases m0 : md = 0
        · subst m0
          have HTW := Lib.hid (fun (k : Nat) (hk : k ≤ (ownT T.hv t).length) (h1 : ∀ x ∈ (ownT T.hv t).drop k, ordT.lt q.res x = true) (h2 : ∀ y, k ≠ 0 → (ownT T.hv t)[k - 1]? = some y → ordT.lt q.res y = false) => show thg ordT T t = (ownT T.hv t).take k ++ q.res :: (ownT T.hv t).drop k by
            rw [thg_new (by rw [HIS.out]) (by rw [HQ.out]; exact HMD0.out), HQ.out]
            exact ins_rest hk (ownT_srt HI.out.srt t) h1 h2)
          have hbC : Below wr.heap.size wr (wr.alloc (.cells #[.string ⟨q.res.toArray⟩] 9)) := (Below.refl _ _).alloc (Nat.le_refl _) _
          have HDC := Lib.hid (HD1.out.below hbC)
          have HNW := Lib.hid (one_new KS wr q.res #[.string ⟨q.res.toArray⟩] rfl)
          have HSZ := Lib.hid HDC.out.bel.size
          have HLN := Lib.hid (show (ownT T.hv t).length + 1 ≤ 4294967297 by have := HNT.out; omega)
          obtain ⟨m, hm⟩ : ∃ m, nt + 1 = m := ⟨_, rfl⟩
          have HL1 := Lib.hid (show (ownT T.hv t ++ [q.res]).length = m by rw [List.length_append, HNT.out.1]; exact hm)
          have HMM := Lib.hid hm
          clear hbC hm HD1
          go_wp2_with (first | (at_builtin; refine OwR.wp (K := KS) rfl _ _ rfl w.heap.size (.slice ta nt tc) _ rfl HDC.out.th HSZ.out ⟨_, 0, none⟩ 1 _ [q.res] rfl rfl HNW.out HLN.out ?_; intro v' w6 q6 g6 n6; obtain ⟨ga, gc, hge, -, -⟩ := q6.sl; rw [HL1.out] at hge; subst hge; have HK6 := Lib.hid (HDC.out.things q6 (Frm.grown (F := fun k => (Value.slice ta nt tc).ownBlock = some k) (Frm.refl _ _) g6 (fun k hk => .inl hk))); have hj1 : IntKind.i64.wrap ((m : Int) - 1) = (nt : Int) := (by have := HMM.out; rw [IntWalk.i64_in _ (by omega)]; omega); clear q6 g6 n6))
          go_loopw [11] (fun i wx => ∃ k : Nat, k ≤ nt ∧ i = .int .i64 k ∧ Hid (Dr1 w wx p q (.slice ga m gc) ((ownT T.hv t).take k ++ q.res :: (ownT T.hv t).drop k) (.slice la nl lc) (othL T.hv t) ov0) ∧ Hid (∀ x ∈ (ownT T.hv t).drop k, ordT.lt q.res x = true)) (fun i _ => (intOf i).toNat)
          case atStart => exact ⟨nt, Nat.le_refl _, rfl, Lib.hid (by rw [List.take_of_length_le (Nat.le_of_eq HNT.out.1), List.drop_eq_nil_of_le (Nat.le_of_eq HNT.out.1)]; exact HK6.out), Lib.hid (by rw [List.drop_eq_nil_of_le (Nat.le_of_eq HNT.out.1)]; intro x hx; cases hx)⟩
          case round =>
            clear HK6 c0 cf1
            obtain ⟨k, hk, rfl, HD1, HDD⟩ := hrel
            have hM := HM.out.below HD1.out.bel
            obtain ⟨c0, -, cf0⟩ := hM.cells
            have cf1 := cf0 0
            clear cf0
            have HBQ := Lib.hid (fun (nq : Nat) => show Dr1 w (wr.drewN nq) p q (.slice ga m gc) ((ownT T.hv t).take k ++ q.res :: (ownT T.hv t).drop k) (.slice la nl lc) (othL T.hv t) ov0 from HD1.out.below ⟨rfl, rfl, rfl, Nat.le_refl _, fun _ _ => rfl⟩)
            have hmj := HMM.out
            by_cases k0 : k = 0
            · subst k0
              go_upto_region 12 with fail
              go_quiet (fail)
              have HTH := Lib.hid (show thg ordT T t = (ownT T.hv t).take 0 ++ q.res :: (ownT T.hv t).drop 0 from HTW.out 0 (Nat.zero_le _) HDD.out (fun y h => absurd rfl h))
              have HS0 := Lib.hid (fun (nq : Nat) => (HBQ.out nq).store HM.out HB0.out)
              have HFG := Lib.hid (fun (nq : Nat) => rforget_any (HS0.out nq).m (by have := HZ.out; unfold sizT at this; omega) (Nat.le_trans HB0.out (HS0.out nq).fr.size) t)
              have HNTL := Lib.hid (show ((ownT T.hv t).take 0 ++ q.res :: (ownT T.hv t).drop 0).length = m from by have e := (HBQ.out 0).th.sl; obtain ⟨_, _, e, -, -⟩ := e; injection e with _ e _; exact e.symm)
              have hnz : m ≤ 1000001 := by have h1 := HNTL.out; have h2 := HNT.out; first | omega | (have h3 := HMM.out; omega)
              clear hM
              go_wp2_with fail
              refine (HFG.out _).mono ?_
              rintro e w9 ⟨rfl, hg9⟩
              obtain ⟨vh9, vw9, hD9, -, -⟩ := (HS0.out _).went hg9
              have HS9 := Lib.hid (show DrS w w9 B b (.slice ha j hc) vw vh9 vw9 (outL T t).hv (outL T t).wt (.slice ga m gc) ((ownT T.hv t).take 0 ++ q.res :: (ownT T.hv t).drop 0) ov0 [] from hD9)
              have HBS := Lib.hid (InvL.out ordT mds HI.out t)
              have HFD := Lib.hid (show foldD (((ownT T.hv t).take 0 ++ q.res :: (ownT T.hv t).drop 0).drop 0) (outL T t, []) = dropL ordT mds T t by rw [List.drop_zero, ← HTH.out]; rfl)
              have HSZ9 := Lib.hid (show sizT (outL T t) ≤ 1000000 ∧ ([] : List Int).length + (outL T t).wt.length ≤ 1000000 by
                have h0 := HZ.out
                have h1 := othL_len T.hv t
                have h2 := fgt_len T.wt t
                unfold sizT at h0
                show (othL T.hv t).length + (fgt T.wt t).length ≤ 1000000 ∧ 0 + (fgt T.wt t).length ≤ 1000000
                omega)
              obtain ⟨T0, hT0⟩ : ∃ T0, outL T t = T0 := ⟨_, rfl⟩
              rw [hT0] at HS9 HBS HFD HSZ9
              clear hD9 hg9 HFG HS0 hT0
              go_wp2_with fail
              go_loopw [7, 13] (fun v7 i wx => ∃ (kk : Nat) (vh' vw' : Value) (Tk : TbL RS) (ok : List Int), kk ≤ m ∧ i = .int .i64 kk ∧ Hid (DrS w wx B b (.slice ha j hc) vw vh' vw' Tk.hv Tk.wt (.slice ga m gc) ((ownT T.hv t).take 0 ++ q.res :: (ownT T.hv t).drop 0) v7 ok) ∧ Hid (BasL ordT mds Tk) ∧ Hid (foldD (((ownT T.hv t).take 0 ++ q.res :: (ownT T.hv t).drop 0).drop kk) (Tk, ok) = dropL ordT mds T t) ∧ Hid (sizT Tk ≤ 1000000 ∧ ok.length + Tk.wt.length ≤ 1000000)) (fun _ i _ => m - (intOf i).toNat)
              case atStart => exact ⟨0, vh9, vw9, T0, [], Nat.zero_le _, rfl, HS9, HBS, HFD, HSZ9⟩
              case round =>
                clear HS9 HBS HFD HSZ9
                obtain ⟨kk, vhk, vwk, Tk, ok, hk, rfl, HS, HBS, HFD, HZK⟩ := hrel
                by_cases ck : kk < m
                · have ck1 : (kk : Int) < (m : Int) := by omega
                  obtain ⟨s, hs⟩ : ∃ s, ((ownT T.hv t).take 0 ++ q.res :: (ownT T.hv t).drop 0)[kk]? = some s := ⟨_, List.getElem?_eq_getElem (by rw [HNTL.out]; exact ck)⟩
                  obtain ⟨gt, rfl, -, -, -⟩ := HS.out.th.blk (i := kk) (by rw [HNTL.out]; exact ck)
                  obtain ⟨s0, -⟩ := ks_at HS.out.th hs
                  have hkw : IntKind.i64.wrap ((kk : Int) + 1) = ((kk + 1 : Nat) : Int) := by rw [IntWalk.i64_in _ (by omega)]; omega
                  have HQU := Lib.hid (rqueue_any HS.out.m (by have := HZK.out.1; unfold sizT at this; omega) s)
                  have HFK := Lib.hid (show foldD (((ownT T.hv t).take 0 ++ q.res :: (ownT T.hv t).drop 0).drop (kk + 1)) (stl ordT mds (que Tk.wt s) Tk ok) = dropL ordT mds T t by
                    have := HFD.out
                    rw [drop_at hs, foldD_cons] at this
                    exact this)
                  clear hs HFD
                  go_wp2_with fail
                  refine HQU.out.mono ?_
                  rintro e w4 ⟨vq, rfl, hoq, hb4⟩
                  obtain ⟨Q, hQ⟩ : ∃ Q, que Tk.wt s = Q := ⟨_, rfl⟩
                  rw [hQ] at hoq HFK
                  obtain ⟨qa, qc, hqe, -, -⟩ := hoq.sl
                  obtain ⟨nq, hnq⟩ : ∃ nq, Q.length = nq := ⟨_, rfl⟩
                  rw [hnq] at hqe
                  subst hqe
                  have HNQ := Lib.hid hnq
                  have hnq9 : nq ≤ 1000000 := by
                    have h1 := que_le Tk.wt s
                    rw [hQ, hnq] at h1
                    have := HZK.out.2
                    omega
                  have HWR := Lib.hid HS.out.fr.size
                  have HS4 := Lib.hid (HS.out.below hb4)
                  have HQ4 := Lib.hid (show OwR KL w4 wr.heap.size (.slice qa nq qc) Q ∧ ∀ k, (Value.slice qa nq qc).ownBlock = some k → ¬ blkD b vhk vwk k from
                    ⟨hoq, fun k e c => by have h1 := (hoq.lt e).1; have h2 := (HS.out.m.blk c).2; omega⟩)
                  have HQW4 := Lib.hid (show que Tk.wt s = Q.drop 0 from hQ)
                  have HSTL4 := Lib.hid (show stl ordT mds (Q.drop 0) Tk ok = stl ordT mds Q Tk ok from rfl)
                  clear hoq hb4 HQU hQ hnq HS s0
                  go_wp2_with fail
                  go_loopw [7, 15] (fun v7 i wx => ∃ (d : Nat) (vh' vw' : Value) (T' : TbL RS) (o' : List Int), d ≤ nq ∧ i = .int .i64 d ∧ Hid (DrS w wx B b (.slice ha j hc) vw vh' vw' T'.hv T'.wt (.slice (some ⟨gt, 0, none⟩) m gc) ((ownT T.hv t).take 0 ++ q.res :: (ownT T.hv t).drop 0) v7 o') ∧ Hid (BasL ordT mds T') ∧ Hid (OwR KL wx w.heap.size (.slice qa nq qc) Q ∧ ∀ k, (Value.slice qa nq qc).ownBlock = some k → ¬ blkD b vh' vw' k) ∧ Hid (que T'.wt s = Q.drop d) ∧ Hid (stl ordT mds (Q.drop d) T' o' = stl ordT mds Q Tk ok) ∧ Hid (sizT T' ≤ 1000000 ∧ o'.length + T'.wt.length ≤ 1000000)) (fun _ i _ => nq - (intOf i).toNat)
                  case atStart => exact ⟨0, vhk, vwk, Tk, ok, Nat.zero_le _, rfl, HS4, HBS, Lib.hid ⟨HQ4.out.1.le HWR.out, HQ4.out.2⟩, HQW4, HSTL4, HZK⟩
                  case round =>
                    clear HS4 HQ4 HQW4 HSTL4 HZK HBS
                    obtain ⟨d, vhd, vwd, Td, od, hd, rfl, HS, HBS, HQR, HQW, HSTL, HZD⟩ := hrel
                    by_cases cd : d < nq
                    · have cd1 : (d : Int) < (nq : Int) := by omega
                      obtain ⟨l, hl⟩ : ∃ l, Q[d]? = some l := ⟨_, List.getElem?_eq_getElem (by rw [HNQ.out]; exact cd)⟩
                      obtain ⟨gq, rfl, -, -, -⟩ := HQR.out.1.blk (i := d) (by rw [HNQ.out]; exact cd)
                      obtain ⟨l0, l1, l2, -⟩ := kl_at HQR.out.1 hl
                      have hdw : IntKind.i64.wrap ((d : Int) + 1) = ((d + 1 : Nat) : Int) := by rw [IntWalk.i64_in _ (by omega)]; omega
                      have HQC := Lib.hid (show que Td.wt s = l :: Q.drop (d + 1) by rw [HQW.out, drop_at hl])
                      have HQS := Lib.hid (show stl ordT mds (l :: Q.drop (d + 1)) Td od = stl ordT mds Q Tk ok by rw [← drop_at hl]; exact HSTL.out)
                      have hcn := rcan_any HS.out.m l
                      unfold encL at hcn
                      obtain ⟨cn, hcc⟩ : ∃ cn, can mds Td.hv l = cn := ⟨_, rfl⟩
                      rw [hcc] at hcn
                      have HCN := Lib.hid hcn
                      have HCC := Lib.hid hcc
                      have HL := Lib.hid hl
                      clear hcn hcc hl HSTL HQW
                      go_wp2_with fail
                      refine HCN.out.mono ?_
                      rintro e w5 ⟨rfl, hb5⟩
                      have HS5 := Lib.hid (HS.out.below hb5)
                      have HQ5 := Lib.hid (show OwR KL w5 w.heap.size (.slice (some ⟨gq, 0, none⟩) nq qc) Q from HQR.out.1.below hb5)
                      have HQO := Lib.hid HQR.out.2
                      clear hb5 HCN l0 l1 l2 HS HQR
                      obtain ⟨l0, l1, l2, -⟩ := kl_at HQ5.out HL.out
                      cases cn with
                      | true =>
                        have HFO := Lib.hid (rforget_any HS5.out.m (by have := HZD.out.1; unfold sizT at this; omega) (Nat.le_trans HB0.out HS5.out.fr.size) l.txn)
                        go_wp2_with fail
                        refine HFO.out.mono ?_
                        rintro e w6 ⟨rfl, hg6⟩
                        obtain ⟨vh6, vw6, hS6, hf6, hn6⟩ := HS5.out.went hg6
                        have HS6 := Lib.hid hS6
                        have hq6 := off_went HQ5.out HQO.out hf6 hn6
                        have HQ6 := Lib.hid hq6.1
                        have HQO6 := Lib.hid hq6.2
                        have hgv := rgive_any HS6.out.m HBS.out.srt (by have := HZD.out.1; unfold sizT at this; omega) (Nat.le_trans HB0.out HS6.out.fr.size) l
                        unfold encL at hgv
                        have HGV := Lib.hid hgv
                        clear hS6 hf6 hn6 hq6 hgv hg6 HFO l0 l1 l2 HQ5 HQO
                        obtain ⟨l0, l1, l2, -⟩ := kl_at HQ6.out HL.out
                        go_wp2_with fail
                        refine HGV.out.mono ?_
                        rintro e w7 ⟨rfl, hg7⟩
                        obtain ⟨vh7, vw7, hS7, hf7, hn7⟩ := HS6.out.went hg7
                        have HS7 := Lib.hid hS7
                        have hq7 := off_went HQ6.out HQO6.out hf7 hn7
                        have HQ7 := Lib.hid hq7.1
                        have HQO7 := Lib.hid hq7.2
                        clear hS7 hf7 hn7 hq7 hg7 HGV l0 l1 l2 HQ6 HQO6 HS6
                        obtain ⟨l0, l1, l2, -⟩ := kl_at HQ7.out HL.out
                        have hbC : Below w7.heap.size w7 (w7.alloc (.cells #[.int .i64 l.txn] 3)) := (Below.refl _ _).alloc (Nat.le_refl _) _
                        have HSC := Lib.hid (HS7.out.below hbC)
                        have HQC7 := Lib.hid (HQ7.out.below hbC)
                        have HNW := Lib.hid (one_new KI w7 l.txn #[.int .i64 l.txn] rfl)
                        have HSZ := Lib.hid (show w.heap.size ≤ (w7.alloc (.cells #[.int .i64 l.txn] 3)).heap.size from HSC.out.fr.size)
                        have HLN := Lib.hid (show od.length + 1 ≤ 4294967297 by have := HZD.out.2; omega)
                        have HBG := Lib.hid (BasL.grant ordT mds HBS.out HQC.out HCC.out)
                        have HQG := Lib.hid (que_head HBS.out.one HQC.out)
                        have HSG := Lib.hid (show stl ordT mds (Q.drop (d + 1)) ⟨gv ordT l Td.hv, fgt Td.wt l.txn⟩ (od ++ [l.txn]) = stl ordT mds Q Tk ok by rw [← HQS.out, stl_yes HCC.out])
                        have HZG := Lib.hid (show sizT (⟨gv ordT l Td.hv, fgt Td.wt l.txn⟩ : TbL RS) ≤ 1000000 ∧ (od ++ [l.txn]).length + (fgt Td.wt l.txn).length ≤ 1000000 by
                          have h1 := siz_pop ordT HQC.out
                          obtain ⟨hr, u, hu, hul⟩ := mem_que.1 (show l ∈ que Td.wt s by rw [HQC.out]; exact List.mem_cons_self ..)
                          have h2 := fgt_length hu
                          rw [hul] at h2
                          have h3 := HZD.out
                          rw [List.length_append]
                          simp only [List.length_cons, List.length_nil]
                          omega)
                        clear hbC HQ7 HS7
                        go_wp2_with (first | (at_builtin; refine OwR.wp (K := KI) rfl _ _ rfl w.heap.size u7 _ rfl HSC.out.ou HSZ.out ⟨_, 0, none⟩ 1 _ [l.txn] rfl rfl HNW.out HLN.out ?_; intro v' w8 q8 g8 n8; have HK8 := Lib.hid (HSC.out.push q8 g8); have HQ8 := Lib.hid (show OwR KL w8 w.heap.size (.slice (some ⟨gq, 0, none⟩) nq qc) Q from HQC7.out.step (Frm.grown (F := fun k => u7.ownBlock = some k) (Frm.refl _ _) g8 (fun k hk => .inl hk)) (fun k e c => HSC.out.ou.apart HQC7.out (by decide) c e)); clear q8 g8 n8))
                        go_roundw
                        case rel => exact ⟨d + 1, vh7, vw7, ⟨gv ordT l Td.hv, fgt Td.wt l.txn⟩, od ++ [l.txn], by omega, by first | rfl | go_num, HK8, HBG, Lib.hid ⟨HQ8.out, HQO7.out⟩, HQG, HSG, HZG⟩
                        case measure => simp [intOf]; omega
                      | false =>
                        have HFK2 := Lib.hid (show foldD (((ownT T.hv t).take 0 ++ q.res :: (ownT T.hv t).drop 0).drop (kk + 1)) (Td, od) = dropL ordT mds T t by
                          have e := HQS.out
                          rw [stl_no HCC.out] at e
                          rw [e]; exact HFK.out)
                        go_wp2_with fail
                        go_roundw
                        case rel => exact ⟨kk + 1, vhd, vwd, Td, od, by omega, by first | rfl | go_num, HS5, HBS, HFK2, HZD⟩
                        case measure => simp [intOf]; omega
                    · obtain rfl : d = nq := by omega
                      have cfd : decide ((d : Int) < (d : Int)) = false := by simp
                      have HFK2 := Lib.hid (show foldD (((ownT T.hv t).take 0 ++ q.res :: (ownT T.hv t).drop 0).drop (kk + 1)) (Td, od) = dropL ordT mds T t by
                        have e := HSTL.out
                        rw [List.drop_eq_nil_of_le (Nat.le_of_eq HNQ.out), stl_end] at e
                        rw [e]; exact HFK.out)
                      go_wp2_with fail
                      go_roundw
                      case rel => exact ⟨kk + 1, vhd, vwd, Td, od, by omega, by first | rfl | go_num, HS, HBS, HFK2, HZD⟩
                      case measure => simp [intOf]; omega
                · obtain rfl : kk = m := by omega
                  have cfk : decide ((kk : Int) < (kk : Int)) = false := by simp
                  have HF := Lib.hid (show P (.returned u7) wr by
                    have e := HFD.out
                    rw [List.drop_eq_nil_of_le (Nat.le_of_eq HNTL.out), foldD_nil] at e
                    rw [← HP.out, ← e]
                    exact ⟨u7, rfl, HS.out.ou, vhk, vwk, HS.out.m, HS.out.fr, HS.out.nw⟩)
                  go_wp2_with fail
                  first | exact HF.out | simpa using HF.out
            · obtain ⟨k', hk'⟩ : ∃ k', k = k' + 1 := ⟨k - 1, by omega⟩
              have HK' := Lib.hid hk'
              have hkl : k' < (ownT T.hv t).length := by rw [HNT.out.1]; omega
              obtain ⟨y, hy⟩ : ∃ y, (ownT T.hv t)[k']? = some y := ⟨_, List.getElem?_eq_getElem hkl⟩
              obtain ⟨g2, rfl, -, -, hg2⟩ := HD1.out.th.blk (i := k') (by rw [bub_len]; omega)
              obtain ⟨x0, xf⟩ := ks_at HD1.out.th (bub_at (l := q.res) (show k ≤ (ownT T.hv t).length by omega))
              obtain ⟨y0, -⟩ := ks_at HD1.out.th (by rw [hk']; exact bub_pre (l := q.res) hy)
              have HY := Lib.hid hy
              have hkw : IntKind.i64.wrap ((k : Int) - 1) = (k' : Int) := by rw [IntWalk.i64_in _ (by omega)]; omega
              have hkp : (0 : Int) < (k : Int) := by omega
              have hkn : 0 < k := by omega
              have hkm : k < m := by omega
              have hkm2 : k' < m := by omega
              have hk0 : (0 : Int) ≤ (k : Int) := by omega
              have hk9 : (0 : Int) ≤ (k' : Int) := by omega
              have hk1 : (k : Int) < (m : Int) := by omega
              have hk2 : (k' : Int) < (m : Int) := by omega
              have xf1 := xf k
              have xf2 := xf k'
              cases hlt : ordT.lt q.res y with
              | true =>
                have hbl : Op.bytesLess q.res y = true := by rw [bl_eq]; exact hlt
                have hkk : ¬ k' = k := by omega
                have hkk2 : ¬ k = k' := by omega
                have HKK := Lib.hid (fun (nq : Nat) => show Dr1 w (((wr.drewN nq).setCell ⟨g2, k, none⟩ (.string ⟨y.toArray⟩)).setCell ⟨g2, k', none⟩ (.string ⟨q.res.toArray⟩)) p q (.slice (some ⟨g2, 0, none⟩) m gc) ((ownT T.hv t).take k' ++ q.res :: (ownT T.hv t).drop k') (.slice la nl lc) (othL T.hv t) ov0 by
                  have h1 := HBQ.out nq
                  have h2 := h1.things (ks_set h1.th (i := k) (by rw [bub_len]; omega) y) (Frm.set1 (F := fun z => (Value.slice (some ⟨g2, 0, none⟩) m gc).ownBlock = some z) _ rfl _ _)
                  have h3 := h2.things (ks_set h2.th (i := k') (by rw [List.length_set, bub_len]; omega) q.res) (Frm.set1 (F := fun z => (Value.slice (some ⟨g2, 0, none⟩) m gc).ownBlock = some z) _ rfl _ _)
                  have e := bub (l := q.res) hy
                  rw [← hk'] at e
                  rw [e] at h3
                  exact h3)
                have HD6 := Lib.hid (show ∀ x ∈ (ownT T.hv t).drop k', ordT.lt q.res x = true by
                  rw [drop_at hy]
                  intro x hx
                  rcases List.mem_cons.1 hx with e | e
                  · rw [e]; exact hlt
                  · rw [← hk'] at e; exact HDD.out x e)
                have hkn1 : k' ≤ nt := by omega
                have hkn2 : k' < k := by omega
                clear hy hkl hk' xf hlt
                go_upto_region 12 with fail
                go_quiet (fail)
                go_wp2_with fail
                go_roundw
                case rel => exact ⟨k', hkn1, by first | rfl | go_num, Lib.hid (HKK.out _), HD6⟩
                case measure => simp [intOf]; omega
              | false =>
                have hbl : Op.bytesLess q.res y = false := by rw [bl_eq]; exact hlt
                have HLT := Lib.hid hlt
                clear hy hkl hk' xf hlt
                go_upto_region 12 with fail
                go_quiet (fail)
                have HTH := Lib.hid (show thg ordT T t = (ownT T.hv t).take k ++ q.res :: (ownT T.hv t).drop k from HTW.out k (by have := HNT.out; omega) HDD.out (fun y' _ hy' => by have e := HK'.out; rw [show k - 1 = k' by omega, HY.out] at hy'; injection hy' with hy'; rw [← hy']; exact HLT.out))
                have HS0 := Lib.hid (fun (nq : Nat) => (HBQ.out nq).store HM.out HB0.out)
                have HFG := Lib.hid (fun (nq : Nat) => rforget_any (HS0.out nq).m (by have := HZ.out; unfold sizT at this; omega) (Nat.le_trans HB0.out (HS0.out nq).fr.size) t)
                have HNTL := Lib.hid (show ((ownT T.hv t).take k ++ q.res :: (ownT T.hv t).drop k).length = m from by have e := (HBQ.out 0).th.sl; obtain ⟨_, _, e, -, -⟩ := e; injection e with _ e _; exact e.symm)
                have hnz : m ≤ 1000001 := by have h1 := HNTL.out; have h2 := HNT.out; first | omega | (have h3 := HMM.out; omega)
                clear hM
                go_wp2_with fail
                refine (HFG.out _).mono ?_
                rintro e w9 ⟨rfl, hg9⟩
                obtain ⟨vh9, vw9, hD9, -, -⟩ := (HS0.out _).went hg9
                have HS9 := Lib.hid (show DrS w w9 B b (.slice ha j hc) vw vh9 vw9 (outL T t).hv (outL T t).wt (.slice (some ⟨g2, 0, none⟩) m gc) ((ownT T.hv t).take k ++ q.res :: (ownT T.hv t).drop k) ov0 [] from hD9)
                have HBS := Lib.hid (InvL.out ordT mds HI.out t)
                have HFD := Lib.hid (show foldD (((ownT T.hv t).take k ++ q.res :: (ownT T.hv t).drop k).drop 0) (outL T t, []) = dropL ordT mds T t by rw [List.drop_zero, ← HTH.out]; rfl)
                have HSZ9 := Lib.hid (show sizT (outL T t) ≤ 1000000 ∧ ([] : List Int).length + (outL T t).wt.length ≤ 1000000 by
                  have h0 := HZ.out
                  have h1 := othL_len T.hv t
                  have h2 := fgt_len T.wt t
                  unfold sizT at h0
                  show (othL T.hv t).length + (fgt T.wt t).length ≤ 1000000 ∧ 0 + (fgt T.wt t).length ≤ 1000000
                  omega)
                obtain ⟨T0, hT0⟩ : ∃ T0, outL T t = T0 := ⟨_, rfl⟩
                rw [hT0] at HS9 HBS HFD HSZ9
                clear hD9 hg9 HFG HS0 hT0
                go_wp2_with fail
                go_loopw [7, 13] (fun v7 i wx => ∃ (kk : Nat) (vh' vw' : Value) (Tk : TbL RS) (ok : List Int), kk ≤ m ∧ i = .int .i64 kk ∧ Hid (DrS w wx B b (.slice ha j hc) vw vh' vw' Tk.hv Tk.wt (.slice (some ⟨g2, 0, none⟩) m gc) ((ownT T.hv t).take k ++ q.res :: (ownT T.hv t).drop k) v7 ok) ∧ Hid (BasL ordT mds Tk) ∧ Hid (foldD (((ownT T.hv t).take k ++ q.res :: (ownT T.hv t).drop k).drop kk) (Tk, ok) = dropL ordT mds T t) ∧ Hid (sizT Tk ≤ 1000000 ∧ ok.length + Tk.wt.length ≤ 1000000)) (fun _ i _ => m - (intOf i).toNat)
                case atStart => exact ⟨0, vh9, vw9, T0, [], Nat.zero_le _, rfl, HS9, HBS, HFD, HSZ9⟩
                case round =>
                  clear HS9 HBS HFD HSZ9
                  obtain ⟨kk, vhk, vwk, Tk, ok, hk, rfl, HS, HBS, HFD, HZK⟩ := hrel
                  by_cases ck : kk < m
                  · have ck1 : (kk : Int) < (m : Int) := by omega
                    obtain ⟨s, hs⟩ : ∃ s, ((ownT T.hv t).take k ++ q.res :: (ownT T.hv t).drop k)[kk]? = some s := ⟨_, List.getElem?_eq_getElem (by rw [HNTL.out]; exact ck)⟩
                    obtain ⟨gt, hgt, -, -, -⟩ := HS.out.th.blk (i := kk) (by rw [HNTL.out]; exact ck)
                    injection hgt with hgt
                    injection hgt with hgt
                    subst hgt
                    obtain ⟨s0, -⟩ := ks_at HS.out.th hs
                    have hkw : IntKind.i64.wrap ((kk : Int) + 1) = ((kk + 1 : Nat) : Int) := by rw [IntWalk.i64_in _ (by omega)]; omega
                    have HQU := Lib.hid (rqueue_any HS.out.m (by have := HZK.out.1; unfold sizT at this; omega) s)
                    have HFK := Lib.hid (show foldD (((ownT T.hv t).take k ++ q.res :: (ownT T.hv t).drop k).drop (kk + 1)) (stl ordT mds (que Tk.wt s) Tk ok) = dropL ordT mds T t by
                      have := HFD.out
                      rw [drop_at hs, foldD_cons] at this
                      exact this)
                    clear hs HFD
                    go_wp2_with fail
                    refine HQU.out.mono ?_
                    rintro e w4 ⟨vq, rfl, hoq, hb4⟩
                    obtain ⟨Q, hQ⟩ : ∃ Q, que Tk.wt s = Q := ⟨_, rfl⟩
                    rw [hQ] at hoq HFK
                    obtain ⟨qa, qc, hqe, -, -⟩ := hoq.sl
                    obtain ⟨nq, hnq⟩ : ∃ nq, Q.length = nq := ⟨_, rfl⟩
                    rw [hnq] at hqe
                    subst hqe
                    have HNQ := Lib.hid hnq
                    have hnq9 : nq ≤ 1000000 := by
                      have h1 := que_le Tk.wt s
                      rw [hQ, hnq] at h1
                      have := HZK.out.2
                      omega
                    have HWR := Lib.hid HS.out.fr.size
                    have HS4 := Lib.hid (HS.out.below hb4)
                    have HQ4 := Lib.hid (show OwR KL w4 wr.heap.size (.slice qa nq qc) Q ∧ ∀ k, (Value.slice qa nq qc).ownBlock = some k → ¬ blkD b vhk vwk k from
                      ⟨hoq, fun k e c => by have h1 := (hoq.lt e).1; have h2 := (HS.out.m.blk c).2; omega⟩)
                    have HQW4 := Lib.hid (show que Tk.wt s = Q.drop 0 from hQ)
                    have HSTL4 := Lib.hid (show stl ordT mds (Q.drop 0) Tk ok = stl ordT mds Q Tk ok from rfl)
                    clear hoq hb4 HQU hQ hnq HS s0
                    go_wp2_with fail
                    go_loopw [7, 15] (fun v7 i wx => ∃ (d : Nat) (vh' vw' : Value) (T' : TbL RS) (o' : List Int), d ≤ nq ∧ i = .int .i64 d ∧ Hid (DrS w wx B b (.slice ha j hc) vw vh' vw' T'.hv T'.wt (.slice (some ⟨g2, 0, none⟩) m gc) ((ownT T.hv t).take k ++ q.res :: (ownT T.hv t).drop k) v7 o') ∧ Hid (BasL ordT mds T') ∧ Hid (OwR KL wx w.heap.size (.slice qa nq qc) Q ∧ ∀ k, (Value.slice qa nq qc).ownBlock = some k → ¬ blkD b vh' vw' k) ∧ Hid (que T'.wt s = Q.drop d) ∧ Hid (stl ordT mds (Q.drop d) T' o' = stl ordT mds Q Tk ok) ∧ Hid (sizT T' ≤ 1000000 ∧ o'.length + T'.wt.length ≤ 1000000)) (fun _ i _ => nq - (intOf i).toNat)
                    case atStart => exact ⟨0, vhk, vwk, Tk, ok, Nat.zero_le _, rfl, HS4, HBS, Lib.hid ⟨HQ4.out.1.le HWR.out, HQ4.out.2⟩, HQW4, HSTL4, HZK⟩
                    case round =>
                      clear HS4 HQ4 HQW4 HSTL4 HZK HBS
                      obtain ⟨d, vhd, vwd, Td, od, hd, rfl, HS, HBS, HQR, HQW, HSTL, HZD⟩ := hrel
                      by_cases cd : d < nq
                      · have cd1 : (d : Int) < (nq : Int) := by omega
                        obtain ⟨l, hl⟩ : ∃ l, Q[d]? = some l := ⟨_, List.getElem?_eq_getElem (by rw [HNQ.out]; exact cd)⟩
                        obtain ⟨gq, rfl, -, -, -⟩ := HQR.out.1.blk (i := d) (by rw [HNQ.out]; exact cd)
                        obtain ⟨l0, l1, l2, -⟩ := kl_at HQR.out.1 hl
                        have hdw : IntKind.i64.wrap ((d : Int) + 1) = ((d + 1 : Nat) : Int) := by rw [IntWalk.i64_in _ (by omega)]; omega
                        have HQC := Lib.hid (show que Td.wt s = l :: Q.drop (d + 1) by rw [HQW.out, drop_at hl])
                        have HQS := Lib.hid (show stl ordT mds (l :: Q.drop (d + 1)) Td od = stl ordT mds Q Tk ok by rw [← drop_at hl]; exact HSTL.out)
                        have hcn := rcan_any HS.out.m l
                        unfold encL at hcn
                        obtain ⟨cn, hcc⟩ : ∃ cn, can mds Td.hv l = cn := ⟨_, rfl⟩
                        rw [hcc] at hcn
                        have HCN := Lib.hid hcn
                        have HCC := Lib.hid hcc
                        have HL := Lib.hid hl
                        clear hcn hcc hl HSTL HQW
                        go_wp2_with fail
                        refine HCN.out.mono ?_
                        rintro e w5 ⟨rfl, hb5⟩
                        have HS5 := Lib.hid (HS.out.below hb5)
                        have HQ5 := Lib.hid (show OwR KL w5 w.heap.size (.slice (some ⟨gq, 0, none⟩) nq qc) Q from HQR.out.1.below hb5)
                        have HQO := Lib.hid HQR.out.2
                        clear hb5 HCN l0 l1 l2 HS HQR
                        obtain ⟨l0, l1, l2, -⟩ := kl_at HQ5.out HL.out
                        cases cn with
                        | true =>
                          have HFO := Lib.hid (rforget_any HS5.out.m (by have := HZD.out.1; unfold sizT at this; omega) (Nat.le_trans HB0.out HS5.out.fr.size) l.txn)
                          go_wp2_with fail
                          refine HFO.out.mono ?_
                          rintro e w6 ⟨rfl, hg6⟩
                          obtain ⟨vh6, vw6, hS6, hf6, hn6⟩ := HS5.out.went hg6
                          have HS6 := Lib.hid hS6
                          have hq6 := off_went HQ5.out HQO.out hf6 hn6
                          have HQ6 := Lib.hid hq6.1
                          have HQO6 := Lib.hid hq6.2
                          have hgv := rgive_any HS6.out.m HBS.out.srt (by have := HZD.out.1; unfold sizT at this; omega) (Nat.le_trans HB0.out HS6.out.fr.size) l
                          unfold encL at hgv
                          have HGV := Lib.hid hgv
                          clear hS6 hf6 hn6 hq6 hgv hg6 HFO l0 l1 l2 HQ5 HQO
                          obtain ⟨l0, l1, l2, -⟩ := kl_at HQ6.out HL.out
                          go_wp2_with fail
                          refine HGV.out.mono ?_
                          rintro e w7 ⟨rfl, hg7⟩
                          obtain ⟨vh7, vw7, hS7, hf7, hn7⟩ := HS6.out.went hg7
                          have HS7 := Lib.hid hS7
                          have hq7 := off_went HQ6.out HQO6.out hf7 hn7
                          have HQ7 := Lib.hid hq7.1
                          have HQO7 := Lib.hid hq7.2
                          clear hS7 hf7 hn7 hq7 hg7 HGV l0 l1 l2 HQ6 HQO6 HS6
                          obtain ⟨l0, l1, l2, -⟩ := kl_at HQ7.out HL.out
                          have hbC : Below w7.heap.size w7 (w7.alloc (.cells #[.int .i64 l.txn] 3)) := (Below.refl _ _).alloc (Nat.le_refl _) _
                          have HSC := Lib.hid (HS7.out.below hbC)
                          have HQC7 := Lib.hid (HQ7.out.below hbC)
                          have HNW := Lib.hid (one_new KI w7 l.txn #[.int .i64 l.txn] rfl)
                          have HSZ := Lib.hid (show w.heap.size ≤ (w7.alloc (.cells #[.int .i64 l.txn] 3)).heap.size from HSC.out.fr.size)
                          have HLN := Lib.hid (show od.length + 1 ≤ 4294967297 by have := HZD.out.2; omega)
                          have HBG := Lib.hid (BasL.grant ordT mds HBS.out HQC.out HCC.out)
                          have HQG := Lib.hid (que_head HBS.out.one HQC.out)
                          have HSG := Lib.hid (show stl ordT mds (Q.drop (d + 1)) ⟨gv ordT l Td.hv, fgt Td.wt l.txn⟩ (od ++ [l.txn]) = stl ordT mds Q Tk ok by rw [← HQS.out, stl_yes HCC.out])
                          have HZG := Lib.hid (show sizT (⟨gv ordT l Td.hv, fgt Td.wt l.txn⟩ : TbL RS) ≤ 1000000 ∧ (od ++ [l.txn]).length + (fgt Td.wt l.txn).length ≤ 1000000 by
                            have h1 := siz_pop ordT HQC.out
                            obtain ⟨hr, u, hu, hul⟩ := mem_que.1 (show l ∈ que Td.wt s by rw [HQC.out]; exact List.mem_cons_self ..)
                            have h2 := fgt_length hu
                            rw [hul] at h2
                            have h3 := HZD.out
                            rw [List.length_append]
                            simp only [List.length_cons, List.length_nil]
                            omega)
                          clear hbC HQ7 HS7
                          go_wp2_with (first | (at_builtin; refine OwR.wp (K := KI) rfl _ _ rfl w.heap.size u7 _ rfl HSC.out.ou HSZ.out ⟨_, 0, none⟩ 1 _ [l.txn] rfl rfl HNW.out HLN.out ?_; intro v' w8 q8 g8 n8; have HK8 := Lib.hid (HSC.out.push q8 g8); have HQ8 := Lib.hid (show OwR KL w8 w.heap.size (.slice (some ⟨gq, 0, none⟩) nq qc) Q from HQC7.out.step (Frm.grown (F := fun k => u7.ownBlock = some k) (Frm.refl _ _) g8 (fun k hk => .inl hk)) (fun k e c => HSC.out.ou.apart HQC7.out (by decide) c e)); clear q8 g8 n8))
                          go_roundw
                          case rel => exact ⟨d + 1, vh7, vw7, ⟨gv ordT l Td.hv, fgt Td.wt l.txn⟩, od ++ [l.txn], by omega, by first | rfl | go_num, HK8, HBG, Lib.hid ⟨HQ8.out, HQO7.out⟩, HQG, HSG, HZG⟩
                          case measure => simp [intOf]; omega
                        | false =>
                          have HFK2 := Lib.hid (show foldD (((ownT T.hv t).take k ++ q.res :: (ownT T.hv t).drop k).drop (kk + 1)) (Td, od) = dropL ordT mds T t by
                            have e := HQS.out
                            rw [stl_no HCC.out] at e
                            rw [e]; exact HFK.out)
                          go_wp2_with fail
                          go_roundw
                          case rel => exact ⟨kk + 1, vhd, vwd, Td, od, by omega, by first | rfl | go_num, HS5, HBS, HFK2, HZD⟩
                          case measure => simp [intOf]; omega
                      · obtain rfl : d = nq := by omega
                        have cfd : decide ((d : Int) < (d : Int)) = false := by simp
                        have HFK2 := Lib.hid (show foldD (((ownT T.hv t).take k ++ q.res :: (ownT T.hv t).drop k).drop (kk + 1)) (Td, od) = dropL ordT mds T t by
                          have e := HSTL.out
                          rw [List.drop_eq_nil_of_le (Nat.le_of_eq HNQ.out), stl_end] at e
                          rw [e]; exact HFK.out)
                        go_wp2_with fail
                        go_roundw
                        case rel => exact ⟨kk + 1, vhd, vwd, Td, od, by omega, by first | rfl | go_num, HS, HBS, HFK2, HZD⟩
                        case measure => simp [intOf]; omega
                  · obtain rfl : kk = m := by omega
                    have cfk : decide ((kk : Int) < (kk : Int)) = false := by simp
                    have HF := Lib.hid (show P (.returned u7) wr by
                      have e := HFD.out
                      rw [List.drop_eq_nil_of_le (Nat.le_of_eq HNTL.out), foldD_nil] at e
                      rw [← HP.out, ← e]
                      exact ⟨u7, rfl, HS.out.ou, vhk, vwk, HS.out.m, HS.out.fr, HS.out.nw⟩)
                    go_wp2_with fail
                    first | exact HF.out | simpa using HF.out
        · have mdd : (md == 0) = false := by simp [m0]
          have HTN := Lib.hid (show thg ordT T t = ownT T.hv t from thg_had (by rw [HQ.out, HMD0.out]; exact m0))
          clear m0
          have HTH := Lib.hid (show thg ordT T t = ownT T.hv t from HTN.out)
          have HS0 := Lib.hid ((HD1.out).store HM.out HB0.out)
          have HFG := Lib.hid (rforget_any (HS0.out).m (by have := HZ.out; unfold sizT at this; omega) (Nat.le_trans HB0.out (HS0.out).fr.size) t)
          have HNTL := Lib.hid (show (ownT T.hv t).length = nt from by have e := (HD1.out).th.sl; obtain ⟨_, _, e, -, -⟩ := e; injection e with _ e _; exact e.symm)
          have hnz : nt ≤ 1000001 := by have h1 := HNTL.out; have h2 := HNT.out; first | omega | (have h3 := HMM.out; omega)
          clear hM
          go_wp2_with fail
          refine (HFG.out).mono ?_
          rintro e w9 ⟨rfl, hg9⟩
          obtain ⟨vh9, vw9, hD9, -, -⟩ := (HS0.out).went hg9
          have HS9 := Lib.hid (show DrS w w9 B b (.slice ha j hc) vw vh9 vw9 (outL T t).hv (outL T t).wt (.slice ta nt tc) (ownT T.hv t) ov0 [] from hD9)
          have HBS := Lib.hid (InvL.out ordT mds HI.out t)
          have HFD := Lib.hid (show foldD ((ownT T.hv t).drop 0) (outL T t, []) = dropL ordT mds T t by rw [List.drop_zero, ← HTH.out]; rfl)
          have HSZ9 := Lib.hid (show sizT (outL T t) ≤ 1000000 ∧ ([] : List Int).length + (outL T t).wt.length ≤ 1000000 by
            have h0 := HZ.out
            have h1 := othL_len T.hv t
            have h2 := fgt_len T.wt t
            unfold sizT at h0
            show (othL T.hv t).length + (fgt T.wt t).length ≤ 1000000 ∧ 0 + (fgt T.wt t).length ≤ 1000000
            omega)
          obtain ⟨T0, hT0⟩ : ∃ T0, outL T t = T0 := ⟨_, rfl⟩
          rw [hT0] at HS9 HBS HFD HSZ9
          clear hD9 hg9 HFG HS0 hT0
          go_wp2_with fail
          go_loopw [7, 13] (fun v7 i wx => ∃ (kk : Nat) (vh' vw' : Value) (Tk : TbL RS) (ok : List Int), kk ≤ nt ∧ i = .int .i64 kk ∧ Hid (DrS w wx B b (.slice ha j hc) vw vh' vw' Tk.hv Tk.wt (.slice ta nt tc) (ownT T.hv t) v7 ok) ∧ Hid (BasL ordT mds Tk) ∧ Hid (foldD ((ownT T.hv t).drop kk) (Tk, ok) = dropL ordT mds T t) ∧ Hid (sizT Tk ≤ 1000000 ∧ ok.length + Tk.wt.length ≤ 1000000)) (fun _ i _ => nt - (intOf i).toNat)
          case atStart => exact ⟨0, vh9, vw9, T0, [], Nat.zero_le _, rfl, HS9, HBS, HFD, HSZ9⟩
          case round =>
            clear HS9 HBS HFD HSZ9
            obtain ⟨kk, vhk, vwk, Tk, ok, hk, rfl, HS, HBS, HFD, HZK⟩ := hrel
            by_cases ck : kk < nt
            · have ck1 : (kk : Int) < (nt : Int) := by omega
              obtain ⟨s, hs⟩ : ∃ s, (ownT T.hv t)[kk]? = some s := ⟨_, List.getElem?_eq_getElem (by rw [HNTL.out]; exact ck)⟩
              obtain ⟨gt, rfl, -, -, -⟩ := HS.out.th.blk (i := kk) (by rw [HNTL.out]; exact ck)
              obtain ⟨s0, -⟩ := ks_at HS.out.th hs
              have hkw : IntKind.i64.wrap ((kk : Int) + 1) = ((kk + 1 : Nat) : Int) := by rw [IntWalk.i64_in _ (by omega)]; omega
              have HQU := Lib.hid (rqueue_any HS.out.m (by have := HZK.out.1; unfold sizT at this; omega) s)
              have HFK := Lib.hid (show foldD ((ownT T.hv t).drop (kk + 1)) (stl ordT mds (que Tk.wt s) Tk ok) = dropL ordT mds T t by
                have := HFD.out
                rw [drop_at hs, foldD_cons] at this
                exact this)
              clear hs HFD
              go_wp2_with fail
              refine HQU.out.mono ?_
              rintro e w4 ⟨vq, rfl, hoq, hb4⟩
              obtain ⟨Q, hQ⟩ : ∃ Q, que Tk.wt s = Q := ⟨_, rfl⟩
              rw [hQ] at hoq HFK
              obtain ⟨qa, qc, hqe, -, -⟩ := hoq.sl
              obtain ⟨nq, hnq⟩ : ∃ nq, Q.length = nq := ⟨_, rfl⟩
              rw [hnq] at hqe
              subst hqe
              have HNQ := Lib.hid hnq
              have hnq9 : nq ≤ 1000000 := by
                have h1 := que_le Tk.wt s
                rw [hQ, hnq] at h1
                have := HZK.out.2
                omega
              have HWR := Lib.hid HS.out.fr.size
              have HS4 := Lib.hid (HS.out.below hb4)
              have HQ4 := Lib.hid (show OwR KL w4 wr.heap.size (.slice qa nq qc) Q ∧ ∀ k, (Value.slice qa nq qc).ownBlock = some k → ¬ blkD b vhk vwk k from
                ⟨hoq, fun k e c => by have h1 := (hoq.lt e).1; have h2 := (HS.out.m.blk c).2; omega⟩)
              have HQW4 := Lib.hid (show que Tk.wt s = Q.drop 0 from hQ)
              have HSTL4 := Lib.hid (show stl ordT mds (Q.drop 0) Tk ok = stl ordT mds Q Tk ok from rfl)
              clear hoq hb4 HQU hQ hnq HS s0
              go_wp2_with fail
              go_loopw [7, 15] (fun v7 i wx => ∃ (d : Nat) (vh' vw' : Value) (T' : TbL RS) (o' : List Int), d ≤ nq ∧ i = .int .i64 d ∧ Hid (DrS w wx B b (.slice ha j hc) vw vh' vw' T'.hv T'.wt (.slice (some ⟨gt, 0, none⟩) nt tc) (ownT T.hv t) v7 o') ∧ Hid (BasL ordT mds T') ∧ Hid (OwR KL wx w.heap.size (.slice qa nq qc) Q ∧ ∀ k, (Value.slice qa nq qc).ownBlock = some k → ¬ blkD b vh' vw' k) ∧ Hid (que T'.wt s = Q.drop d) ∧ Hid (stl ordT mds (Q.drop d) T' o' = stl ordT mds Q Tk ok) ∧ Hid (sizT T' ≤ 1000000 ∧ o'.length + T'.wt.length ≤ 1000000)) (fun _ i _ => nq - (intOf i).toNat)
              case atStart => exact ⟨0, vhk, vwk, Tk, ok, Nat.zero_le _, rfl, HS4, HBS, Lib.hid ⟨HQ4.out.1.le HWR.out, HQ4.out.2⟩, HQW4, HSTL4, HZK⟩
              case round =>
                clear HS4 HQ4 HQW4 HSTL4 HZK HBS
                obtain ⟨d, vhd, vwd, Td, od, hd, rfl, HS, HBS, HQR, HQW, HSTL, HZD⟩ := hrel
                by_cases cd : d < nq
                · have cd1 : (d : Int) < (nq : Int) := by omega
                  obtain ⟨l, hl⟩ : ∃ l, Q[d]? = some l := ⟨_, List.getElem?_eq_getElem (by rw [HNQ.out]; exact cd)⟩
                  obtain ⟨gq, rfl, -, -, -⟩ := HQR.out.1.blk (i := d) (by rw [HNQ.out]; exact cd)
                  obtain ⟨l0, l1, l2, -⟩ := kl_at HQR.out.1 hl
                  have hdw : IntKind.i64.wrap ((d : Int) + 1) = ((d + 1 : Nat) : Int) := by rw [IntWalk.i64_in _ (by omega)]; omega
                  have HQC := Lib.hid (show que Td.wt s = l :: Q.drop (d + 1) by rw [HQW.out, drop_at hl])
                  have HQS := Lib.hid (show stl ordT mds (l :: Q.drop (d + 1)) Td od = stl ordT mds Q Tk ok by rw [← drop_at hl]; exact HSTL.out)
                  have hcn := rcan_any HS.out.m l
                  unfold encL at hcn
                  obtain ⟨cn, hcc⟩ : ∃ cn, can mds Td.hv l = cn := ⟨_, rfl⟩
                  rw [hcc] at hcn
                  have HCN := Lib.hid hcn
                  have HCC := Lib.hid hcc
                  have HL := Lib.hid hl
                  clear hcn hcc hl HSTL HQW
                  go_wp2_with fail
                  refine HCN.out.mono ?_
                  rintro e w5 ⟨rfl, hb5⟩
                  have HS5 := Lib.hid (HS.out.below hb5)
                  have HQ5 := Lib.hid (show OwR KL w5 w.heap.size (.slice (some ⟨gq, 0, none⟩) nq qc) Q from HQR.out.1.below hb5)
                  have HQO := Lib.hid HQR.out.2
                  clear hb5 HCN l0 l1 l2 HS HQR
                  obtain ⟨l0, l1, l2, -⟩ := kl_at HQ5.out HL.out
                  cases cn with
                  | true =>
                    have HFO := Lib.hid (rforget_any HS5.out.m (by have := HZD.out.1; unfold sizT at this; omega) (Nat.le_trans HB0.out HS5.out.fr.size) l.txn)
                    go_wp2_with fail
                    refine HFO.out.mono ?_
                    rintro e w6 ⟨rfl, hg6⟩
                    obtain ⟨vh6, vw6, hS6, hf6, hn6⟩ := HS5.out.went hg6
                    have HS6 := Lib.hid hS6
                    have hq6 := off_went HQ5.out HQO.out hf6 hn6
                    have HQ6 := Lib.hid hq6.1
                    have HQO6 := Lib.hid hq6.2
                    have hgv := rgive_any HS6.out.m HBS.out.srt (by have := HZD.out.1; unfold sizT at this; omega) (Nat.le_trans HB0.out HS6.out.fr.size) l
                    unfold encL at hgv
                    have HGV := Lib.hid hgv
                    clear hS6 hf6 hn6 hq6 hgv hg6 HFO l0 l1 l2 HQ5 HQO
                    obtain ⟨l0, l1, l2, -⟩ := kl_at HQ6.out HL.out
                    go_wp2_with fail
                    refine HGV.out.mono ?_
                    rintro e w7 ⟨rfl, hg7⟩
                    obtain ⟨vh7, vw7, hS7, hf7, hn7⟩ := HS6.out.went hg7
                    have HS7 := Lib.hid hS7
                    have hq7 := off_went HQ6.out HQO6.out hf7 hn7
                    have HQ7 := Lib.hid hq7.1
                    have HQO7 := Lib.hid hq7.2
                    clear hS7 hf7 hn7 hq7 hg7 HGV l0 l1 l2 HQ6 HQO6 HS6
                    obtain ⟨l0, l1, l2, -⟩ := kl_at HQ7.out HL.out
                    have hbC : Below w7.heap.size w7 (w7.alloc (.cells #[.int .i64 l.txn] 3)) := (Below.refl _ _).alloc (Nat.le_refl _) _
                    have HSC := Lib.hid (HS7.out.below hbC)
                    have HQC7 := Lib.hid (HQ7.out.below hbC)
                    have HNW := Lib.hid (one_new KI w7 l.txn #[.int .i64 l.txn] rfl)
                    have HSZ := Lib.hid (show w.heap.size ≤ (w7.alloc (.cells #[.int .i64 l.txn] 3)).heap.size from HSC.out.fr.size)
                    have HLN := Lib.hid (show od.length + 1 ≤ 4294967297 by have := HZD.out.2; omega)
                    have HBG := Lib.hid (BasL.grant ordT mds HBS.out HQC.out HCC.out)
                    have HQG := Lib.hid (que_head HBS.out.one HQC.out)
                    have HSG := Lib.hid (show stl ordT mds (Q.drop (d + 1)) ⟨gv ordT l Td.hv, fgt Td.wt l.txn⟩ (od ++ [l.txn]) = stl ordT mds Q Tk ok by rw [← HQS.out, stl_yes HCC.out])
                    have HZG := Lib.hid (show sizT (⟨gv ordT l Td.hv, fgt Td.wt l.txn⟩ : TbL RS) ≤ 1000000 ∧ (od ++ [l.txn]).length + (fgt Td.wt l.txn).length ≤ 1000000 by
                      have h1 := siz_pop ordT HQC.out
                      obtain ⟨hr, u, hu, hul⟩ := mem_que.1 (show l ∈ que Td.wt s by rw [HQC.out]; exact List.mem_cons_self ..)
                      have h2 := fgt_length hu
                      rw [hul] at h2
                      have h3 := HZD.out
                      rw [List.length_append]
                      simp only [List.length_cons, List.length_nil]
                      omega)
                    clear hbC HQ7 HS7
                    go_wp2_with (first | (at_builtin; refine OwR.wp (K := KI) rfl _ _ rfl w.heap.size u7 _ rfl HSC.out.ou HSZ.out ⟨_, 0, none⟩ 1 _ [l.txn] rfl rfl HNW.out HLN.out ?_; intro v' w8 q8 g8 n8; have HK8 := Lib.hid (HSC.out.push q8 g8); have HQ8 := Lib.hid (show OwR KL w8 w.heap.size (.slice (some ⟨gq, 0, none⟩) nq qc) Q from HQC7.out.step (Frm.grown (F := fun k => u7.ownBlock = some k) (Frm.refl _ _) g8 (fun k hk => .inl hk)) (fun k e c => HSC.out.ou.apart HQC7.out (by decide) c e)); clear q8 g8 n8))
                    go_roundw
                    case rel => exact ⟨d + 1, vh7, vw7, ⟨gv ordT l Td.hv, fgt Td.wt l.txn⟩, od ++ [l.txn], by omega, by first | rfl | go_num, HK8, HBG, Lib.hid ⟨HQ8.out, HQO7.out⟩, HQG, HSG, HZG⟩
                    case measure => simp [intOf]; omega
                  | false =>
                    have HFK2 := Lib.hid (show foldD ((ownT T.hv t).drop (kk + 1)) (Td, od) = dropL ordT mds T t by
                      have e := HQS.out
                      rw [stl_no HCC.out] at e
                      rw [e]; exact HFK.out)
                    go_wp2_with fail
                    go_roundw
                    case rel => exact ⟨kk + 1, vhd, vwd, Td, od, by omega, by first | rfl | go_num, HS5, HBS, HFK2, HZD⟩
                    case measure => simp [intOf]; omega
                · obtain rfl : d = nq := by omega
                  have cfd : decide ((d : Int) < (d : Int)) = false := by simp
                  have HFK2 := Lib.hid (show foldD ((ownT T.hv t).drop (kk + 1)) (Td, od) = dropL ordT mds T t by
                    have e := HSTL.out
                    rw [List.drop_eq_nil_of_le (Nat.le_of_eq HNQ.out), stl_end] at e
                    rw [e]; exact HFK.out)
                  go_wp2_with fail
                  go_roundw
                  case rel => exact ⟨kk + 1, vhd, vwd, Td, od, by omega, by first | rfl | go_num, HS, HBS, HFK2, HZD⟩
                  case measure => simp [intOf]; omega
            · obtain rfl : kk = nt := by omega
              have cfk : decide ((kk : Int) < (kk : Int)) = false := by simp
              have HF := Lib.hid (show P (.returned u7) wr by
                have e := HFD.out
                rw [List.drop_eq_nil_of_le (Nat.le_of_eq HNTL.out), foldD_nil] at e
                rw [← HP.out, ← e]
                exact ⟨u7, rfl, HS.out.ou, vhk, vwk, HS.out.m, HS.out.fr, HS.out.nw⟩)
              go_wp2_with fail
              first | exact HF.out | simpa using HF.out

end Go.Proofs.YtelfinhpjokmdaaGreatDoor
