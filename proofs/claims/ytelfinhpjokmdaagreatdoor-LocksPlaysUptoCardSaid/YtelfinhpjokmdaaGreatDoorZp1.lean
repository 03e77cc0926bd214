/-
  Texts of mine put together, in build order.
  Conditions: as each declaration says.
-/
import Derived.Test.YtelfinhpjokmdaaGreatDoorZo2
namespace Go.Proofs.YtelfinhpjokmdaaGreatDoor
set_option maxRecDepth 100000
open Go.RowKit Go.Joins Go.ChangeShapes Go.WideShapes
open Go.MapKept
set_option linter.unusedVariables false
set_option linter.unnecessarySimpa false
set_option linter.unusedSimpArgs false

theorem kl_res_cell {cur : List Value} {l : List Lv} (h6 : cur.take (l.length * 3) = KL.cells l) {i : Nat} {x : Lv} (hi : l[i]? = some x) {j : Nat} {u : Value} (hj : j < 3) (hu : (KL.enc x)[j]? = some u) : cur[i * 3 + j]? = some u := by
  rw [← KL.cells_at l i j x hi hj, show i * KL.n + j = i * 3 + j from rfl, ← h6, List.getElem?_take] at hu
  split at hu
  · exact hu
  · cases hu
theorem kl_res {w : World} {B g n cap : Nat} {l : List Lv} (h : OwR KL w B (.slice (some ⟨g, 0, none⟩) n cap) l) {i : Nat} {x : Lv} (hi : l[i]? = some x) (s : RS) :
    OwR KL (w.setCell ⟨g, i * 3 + 1, none⟩ (.string ⟨s.toArray⟩)) B (.slice (some ⟨g, 0, none⟩) n cap) (l.set i ⟨x.txn, s, x.mode⟩) := by
  have hil : i < l.length := (List.getElem?_eq_some_iff.1 hi).1
  rcases h.cases with ⟨e, -⟩ | ⟨g1, cap1, cur, e, hb, h2, h3, h4, h5, h6⟩
  · cases e
  · injection e with e1 e2 e3
    injection e1 with e1
    injection e1 with e1
    subst e1
    have hn3 : KL.n = 3 := rfl
    rw [hn3] at h5 h6
    have hcl : cur.length = cap1 * 3 := h5
    refine OwR.upd h h2 (cur' := cur.set (i * 3 + 1) (.string ⟨s.toArray⟩)) ?_ (by simp) (by simp) ?_
    · rw [heap_setCell_same w g (i * 3 + 1) _ _ _ h2]
      congr 2
      simp
    · intro q j y hy hj
      rw [hn3] at hj ⊢
      have hql : q < l.length := by have := (List.getElem?_eq_some_iff.1 hy).1; simpa using this
      rw [List.getElem?_set] at hy ⊢
      by_cases hq : i = q
      · subst hq
        rw [if_pos rfl, if_pos hil] at hy
        injection hy with hy
        subst hy
        have e0 : ∀ j u, j < 3 → (KL.enc x)[j]? = some u → cur[i * 3 + j]? = some u := fun j u hj hu => kl_res_cell h6 hi hj hu
        match j, hj with
        | 0, _ => rw [if_neg (by omega)]; exact e0 0 _ (by decide) rfl
        | 1, _ => rw [if_pos rfl, if_pos (by rw [hcl]; omega)]; rfl
        | 2, _ => rw [if_neg (by omega)]; exact e0 2 _ (by decide) rfl
      · rw [if_neg hq] at hy
        rw [if_neg (by omega)]
        obtain ⟨u, hu⟩ : ∃ u, (KL.enc y)[j]? = some u := ⟨_, List.getElem?_eq_getElem (by rw [KL.len]; exact hj)⟩
        rw [hu]
        exact kl_res_cell h6 hy hj hu

theorem kg_to_cell {cur : List Value} {l : List Gv} (h6 : cur.take (l.length * 2) = KG.cells l) {i : Nat} {x : Gv} (hi : l[i]? = some x) {j : Nat} {u : Value} (hj : j < 2) (hu : (KG.enc x)[j]? = some u) : cur[i * 2 + j]? = some u := by
  rw [← KG.cells_at l i j x hi hj, show i * KG.n + j = i * 2 + j from rfl, ← h6, List.getElem?_take] at hu
  split at hu
  · exact hu
  · cases hu
theorem kg_to {w : World} {B g n cap : Nat} {l : List Gv} (h : OwR KG w B (.slice (some ⟨g, 0, none⟩) n cap) l) {i : Nat} {x : Gv} (hi : l[i]? = some x) (z : Int) :
    OwR KG (w.setCell ⟨g, i * 2 + 1, none⟩ (.int .i64 z)) B (.slice (some ⟨g, 0, none⟩) n cap) (l.set i (x.1, z)) := by
  have hil : i < l.length := (List.getElem?_eq_some_iff.1 hi).1
  rcases h.cases with ⟨e, -⟩ | ⟨g1, cap1, cur, e, hb, h2, h3, h4, h5, h6⟩
  · cases e
  · injection e with e1 e2 e3
    injection e1 with e1
    injection e1 with e1
    subst e1
    have hn3 : KG.n = 2 := rfl
    rw [hn3] at h5 h6
    have hcl : cur.length = cap1 * 2 := h5
    refine OwR.upd h h2 (cur' := cur.set (i * 2 + 1) (.int .i64 z)) ?_ (by simp) (by simp) ?_
    · rw [heap_setCell_same w g (i * 2 + 1) _ _ _ h2]
      congr 2
      simp
    · intro q j y hy hj
      rw [hn3] at hj ⊢
      have hql : q < l.length := by have := (List.getElem?_eq_some_iff.1 hy).1; simpa using this
      rw [List.getElem?_set] at hy ⊢
      by_cases hq : i = q
      · subst hq
        rw [if_pos rfl, if_pos hil] at hy
        injection hy with hy
        subst hy
        have e0 : ∀ j u, j < 2 → (KG.enc x)[j]? = some u → cur[i * 2 + j]? = some u := fun j u hj hu => kg_to_cell h6 hi hj hu
        match j, hj with
        | 0, _ => rw [if_neg (by omega)]; exact e0 0 _ (by decide) rfl
        | 1, _ => rw [if_pos rfl, if_pos (by rw [hcl]; omega)]; rfl
      · rw [if_neg hq] at hy
        rw [if_neg (by omega)]
        obtain ⟨u, hu⟩ : ∃ u, (KG.enc y)[j]? = some u := ⟨_, List.getElem?_eq_getElem (by rw [KG.len]; exact hj)⟩
        rw [hu]
        exact kg_to_cell h6 hy hj hu

theorem OwL.bel2 {w wx wy : World} {v : Value} {G : List Lv} (h : OwL wx w.heap.size v G) (hb : Below wx.heap.size wx wy) : OwL wy w.heap.size v G := (Frm.of_below (F := fun _ => False) hb).owL h (fun _ _ e => e)
/-- a row of its own, whatever is in it, that can be written over -/
def RowW {α : Type} (K : RK Tryz.prog α) (w : World) (B : Nat) (v : Value) (n : Nat) : Prop := ∃ l : List α, l.length = n ∧ OwR K w B v l
theorem RowW.below {α : Type} {K : RK Tryz.prog α} {w w' : World} {B n : Nat} {v : Value} (h : RowW K w B v n) (hb : Below w.heap.size w w') : RowW K w' B v n := by
  obtain ⟨l, h1, h2⟩ := h
  exact ⟨l, h1, h2.below hb⟩
theorem RowW.step {α : Type} {K : RK Tryz.prog α} {w w' : World} {B n : Nat} {v : Value} {F : Bl} (h : RowW K w B v n) (hf : Frm F w w') (hv : ∀ k, v.ownBlock = some k → ¬ F k) : RowW K w' B v n := by
  obtain ⟨l, h1, h2⟩ := h
  exact ⟨l, h1, h2.step hf hv⟩
theorem leq_refl (x : Lv) : leq x.txn ⟨x.res.toArray⟩ x.mode x.txn ⟨x.res.toArray⟩ x.mode = true := (leq_iff x x).2 rfl
set_option maxHeartbeats 16000000 in
theorem shown_any {w0 w : World} {b rb : Nat} {F : Bl} {T : TbL RS} {vh vw : Value} (hA : TbA w0 w b F T) (hR : RfM w w0.heap.size rb vh vw T.hv T.wt) (hZ : sizT T ≤ 1000000) (hE : T.wt.length * sizT T ≤ 549755813000) (t : Int) (s : RS) :
    Calls Tryz.prog 11 #[.pointer (some ⟨b, 0, none⟩), .pointer (some ⟨rb, 0, none⟩), .int .i64 t, .string ⟨s.toArray⟩] w fun e w' => e = .returned (.bool true) ∧ Below w.heap.size w w' := by
  generalize hP : (fun (e : Ending) (w' : World) => e = .returned (.bool true) ∧ Below w.heap.size w w') = P
  have HP := Lib.hid hP
  have HA := Lib.hid hA
  have HR := Lib.hid hR
  have HZ := Lib.hid (show sizT T ≤ 4294967200 ∧ T.wt.length * sizT T ≤ 549755813000 ∧ T.wt.length ≤ 2000000 ∧ sizT T ≤ 1000000 by
    refine ⟨by omega, hE, ?_, hZ⟩
    unfold sizT at hZ
    omega)
  have HL := Lib.hid (hA.locks HZ.out.1)
  clear hP hA hR hZ hE
  go_enter Tryz.func11, Tryz.ntmps11
  go_wp2_with fail
  refine HL.out.mono ?_
  rintro e w1 ⟨vl, rfl, hol, hb1⟩
  have HB1 := Lib.hid hb1
  have HOL := Lib.hid hol
  have HQ := Lib.hid ((HA.out.below hb1).queue HZ.out.1 s)
  clear hol hb1 HL
  go_wp2_with fail
  refine HQ.out.mono ?_
  rintro e w2 ⟨vq, rfl, hoq, hb2⟩
  have HB2 := Lib.hid (HB1.out.trans (hb2.mono HB1.out.size))
  have HOL2 := Lib.hid (HOL.out.bel2 hb2)
  have HOQ2 := Lib.hid hoq
  have HAP := Lib.hid (show ∀ k, vl.ownBlock = some k → vq.ownBlock ≠ some k from fun k e c => by
    have h1 := (HOL.out.lt k e).2
    have h2 := (hoq.lt k c).1
    omega)
  have HWI := Lib.hid ((HA.out.below HB2.out).wish t)
  clear hoq hb2 HQ HOL
  obtain ⟨q, hq⟩ : ∃ q, (wsh T.wt t).getD zL = q := ⟨_, rfl⟩
  obtain ⟨is, his⟩ : ∃ is, (wsh T.wt t).isSome = is := ⟨_, rfl⟩
  rw [hq, his] at HWI
  have HQI := Lib.hid (And.intro hq his)
  clear hq his
  unfold encL at HWI
  go_wp2_with fail
  refine HWI.out.mono ?_
  rintro e w3 ⟨rfl, hb3⟩
  obtain ⟨p, hp⟩ : ∃ p, w3.heap.size = p := ⟨_, rfl⟩
  obtain ⟨W4, hW4⟩ : ∃ W4, w3.alloc (.cells #[.int .i64 q.txn, .string ⟨q.res.toArray⟩, .int .i64 q.mode] 42) = W4 := ⟨_, rfl⟩
  have hb4 : Below w2.heap.size w2 W4 := by rw [← hW4]; exact hb3.alloc hb3.size _
  have HX4 := Lib.hid (show BxL W4 p q by rw [← hW4, ← hp]; exact bxL_new w3 q)
  have HB4 := Lib.hid (HB2.out.trans (hb4.mono HB2.out.size))
  have HOL4 := Lib.hid (HOL2.out.bel2 hb4)
  have HOQ4 := Lib.hid ((Frm.of_below (F := fun _ => False) hb4).owL HOQ2.out (fun _ _ e => e))
  have HRW := Lib.hid (rwish_any (HR.out.below HB4.out) t)
  rw [HQI.out.1, HQI.out.2] at HRW
  unfold encL at HRW
  clear hb3 hb4 HWI HOL2 HOQ2 HB2
  go_upto_region 3 with fail
  try rw [hW4]
  try rw [hp]
  clear hW4 hp
  go_wp2_with fail
  refine HRW.out.mono ?_
  rintro e w5 ⟨rfl, hb5⟩
  obtain ⟨p2, hp2⟩ : ∃ p, w5.heap.size = p := ⟨_, rfl⟩
  obtain ⟨W6, hW6⟩ : ∃ W6, w5.alloc (.cells #[.int .i64 q.txn, .string ⟨q.res.toArray⟩, .int .i64 q.mode] 42) = W6 := ⟨_, rfl⟩
  have hb6 : Below W4.heap.size W4 W6 := by rw [← hW6]; exact hb5.alloc hb5.size _
  have HY6 := Lib.hid (show BxL W6 p2 q by rw [← hW6, ← hp2]; exact bxL_new w5 q)
  have HX6 := Lib.hid (HX4.out.below hb6)
  have HB6 := Lib.hid (HB4.out.trans (hb6.mono HB4.out.size))
  have HOL6 := Lib.hid (HOL4.out.bel2 hb6)
  have HOQ6 := Lib.hid ((Frm.of_below (F := fun _ => False) hb6).owL HOQ4.out (fun _ _ e => e))
  have HR6 := Lib.hid (HR.out.below HB6.out)
  have c6 := HR6.out.cells.1
  have hsl := samelocks_any W6 _ _ vl vh T.hv T.hv HOL6.out (owl_of HR6.out.oh)
  rw [decide_eq_true (rfl : T.hv = T.hv)] at hsl
  have HSL := Lib.hid hsl
  clear hb5 hb6 hsl HRW HOL4 HOQ4 HX4 HB4
  go_upto_region 4 with fail
  try rw [hW6]
  try rw [hp2]
  clear hW6 hp2
  go_wp2_with fail
  refine HSL.out.mono ?_
  rintro e w7 ⟨rfl, hb7⟩
  have HB7 := Lib.hid (HB6.out.trans (hb7.mono HB6.out.size))
  have HX7 := Lib.hid (HX6.out.below hb7)
  have HY7 := Lib.hid (HY6.out.below hb7)
  have HOL7 := Lib.hid (HOL6.out.bel2 hb7)
  have HOQ7 := Lib.hid ((Frm.of_below (F := fun _ => False) hb7).owL HOQ6.out (fun _ _ e => e))
  have HRQ := Lib.hid (rqueue_any (HR.out.below HB7.out) HZ.out.2.2.1 s)
  clear hb7 HSL HX6 HY6 HOL6 HOQ6 HR6 c6 HB6
  go_wp2_with fail
  refine HRQ.out.mono ?_
  rintro e w8 ⟨v8, rfl, ho8, hb8⟩
  have HB8 := Lib.hid (HB7.out.trans (hb8.mono HB7.out.size))
  have HX8 := Lib.hid (HX7.out.below hb8)
  have HY8 := Lib.hid (HY7.out.below hb8)
  have HOL8 := Lib.hid (HOL7.out.bel2 hb8)
  have HOQ8 := Lib.hid ((Frm.of_below (F := fun _ => False) hb8).owL HOQ7.out (fun _ _ e => e))
  have hsl := samelocks_any w8 _ _ vq v8 (que T.wt s) (que T.wt s) HOQ8.out (owl_of ho8)
  rw [decide_eq_true (rfl : que T.wt s = que T.wt s)] at hsl
  have HSL := Lib.hid hsl
  clear ho8 hb8 hsl HRQ HX7 HY7 HOL7 HOQ7 HB7
  go_wp2_with fail
  refine HSL.out.mono ?_
  rintro e w9 ⟨rfl, hb9⟩
  have HB9 := Lib.hid (HB8.out.trans (hb9.mono HB8.out.size))
  obtain ⟨x0, x1, x2⟩ := (HX8.out.below hb9).cells
  obtain ⟨y0, y1, y2⟩ := (HY8.out.below hb9).cells
  have HOL9 := Lib.hid (HOL8.out.bel2 hb9)
  have HOQ9 := Lib.hid ((Frm.of_below (F := fun _ => False) hb9).owL HOQ8.out (fun _ _ e => e))
  have HMD := Lib.hid ((HA.out.below HB9.out).mode t s)
  have hlq := leq_refl q
  clear hb9 HSL HX8 HY8 HOL8 HOQ8 HB8
  go_wp2_with fail
  refine HMD.out.mono ?_
  rintro e w10 ⟨rfl, hb10⟩
  have HB10 := Lib.hid (HB9.out.trans (hb10.mono HB9.out.size))
  have HOL10 := Lib.hid (HOL9.out.bel2 hb10)
  have HOQ10 := Lib.hid ((Frm.of_below (F := fun _ => False) hb10).owL HOQ9.out (fun _ _ e => e))
  have HRM := Lib.hid (rmode_any (HR.out.below HB10.out) t s)
  clear hb10 HMD HOL9 HOQ9 HB9 x0 x1 x2 y0 y1 y2
  go_wp2_with fail
  refine HRM.out.mono ?_
  rintro e w11 ⟨rfl, hw11⟩
  rw [hw11]
  clear hw11 HRM
  obtain ⟨la, lc, hle, -, hlm⟩ := HOL10.out.sl
  obtain ⟨nl, hnl⟩ : ∃ n, T.hv.length = n := ⟨_, rfl⟩
  rw [hnl] at hle
  subst hle
  obtain ⟨qa, qc, hqe, -, -⟩ := HOQ10.out.sl
  obtain ⟨nq, hnq⟩ : ∃ n, (que T.wt s).length = n := ⟨_, rfl⟩
  rw [hnq] at hqe
  subst hqe
  have hl9 : nl ≤ 1000000 := by have := HZ.out.2.2.2; unfold sizT at this; omega
  have hq9 : nq ≤ 1000000 := by
    have h1 := que_le T.wt s
    have := HZ.out.2.2.2
    unfold sizT at this
    omega
  have HRL := Lib.hid (show RowW KL w10 w.heap.size (.slice la nl lc) nl from ⟨T.hv, hnl, OwL.kl (HOL10.out)⟩)
  have HRQ := Lib.hid (show RowW KL w10 w.heap.size (.slice qa nq qc) nq from ⟨que T.wt s, hnq, (OwL.kl HOQ10.out).le (by have := HB1.out.size; exact this)⟩)
  clear hnl hnq HOL10 HOQ10 hlm
  have HRX := HRL
  have HBX := HB10
  clear HRL HB10
  go_wp2_with fail
  go_loopw [75] (fun i wx => ∃ j : Nat, j ≤ nl ∧ i = .int .i64 j ∧ Hid (Below w.heap.size w wx) ∧ Hid (RowW KL wx w.heap.size (.slice la nl lc) nl) ∧ Hid (RowW KL wx w.heap.size (.slice qa nq qc) nq)) (fun i _ => nl - (intOf i).toNat)
  case atStart => exact ⟨0, Nat.zero_le _, rfl, HBX, HRX, HRQ⟩
  case round =>
    clear HBX HRX
    obtain ⟨j, hj, rfl, HB, HRW, HQW⟩ := hrel
    by_cases cj : j < nl
    · have cj1 : (j : Int) < (nl : Int) := by omega
      have cj0 : (0 : Int) ≤ (j : Int) := by omega
      obtain ⟨L', hL', ho⟩ := HRW.out
      obtain ⟨x, hx⟩ : ∃ x, L'[j]? = some x := ⟨_, List.getElem?_eq_getElem (by rw [hL']; exact cj)⟩
      obtain ⟨g, rfl, -, hgB, hgl⟩ := ho.blk (i := j) (by rw [hL']; exact cj)
      obtain ⟨x0, x1, x2, xf⟩ := kl_at ho hx
      have xf1 := xf (j * 3 + 1)
      have hjw : IntKind.i64.wrap ((j : Int) + 1) = ((j + 1 : Nat) : Int) := by rw [IntWalk.i64_in _ (by omega)]; omega
      have HB2 := Lib.hid (show Below w.heap.size w (wr.setCell ⟨g, j * 3 + 1, none⟩ (.string ⟨#[42]⟩)) from HB.out.setCell hgB _)
      have HR2 := Lib.hid (show RowW KL (wr.setCell ⟨g, j * 3 + 1, none⟩ (.string ⟨#[42]⟩)) w.heap.size (.slice (some ⟨g, 0, none⟩) nl lc) nl from ⟨_, by rw [List.length_set]; exact hL', kl_res ho hx [42]⟩)
      have HQ2 := Lib.hid (show RowW KL (wr.setCell ⟨g, j * 3 + 1, none⟩ (.string ⟨#[42]⟩)) w.heap.size (.slice qa nq qc) nq from HQW.out.step (Frm.set1 (F := fun k => k = g) wr rfl _ _) (fun k e c => HAP.out k (by rw [c]; rfl) e))
      clear ho hx hL' hgB hgl xf
      go_wp2_with fail
      go_roundw
      case rel => exact ⟨j + 1, by omega, by first | rfl | go_num, HB2, HR2, HQ2⟩
      case measure => simp [intOf]; omega
    · obtain rfl : j = nl := by omega
      have cf : decide ((j : Int) < (j : Int)) = false := by simp
      have HRX := HQW
      have HBX := HB
      clear HB HQW HRW
      go_wp2_with fail
      go_loopw [85] (fun i wx => ∃ j : Nat, j ≤ nq ∧ i = .int .i64 j ∧ Hid (Below w.heap.size w wx) ∧ Hid (RowW KL wx w.heap.size (.slice qa nq qc) nq)) (fun i _ => nq - (intOf i).toNat)
      case atStart => exact ⟨0, Nat.zero_le _, rfl, HBX, HRX⟩
      case round =>
        clear HBX HRX
        obtain ⟨j, hj, rfl, HB, HRW⟩ := hrel
        by_cases cj : j < nq
        · have cj1 : (j : Int) < (nq : Int) := by omega
          have cj0 : (0 : Int) ≤ (j : Int) := by omega
          obtain ⟨L', hL', ho⟩ := HRW.out
          obtain ⟨x, hx⟩ : ∃ x, L'[j]? = some x := ⟨_, List.getElem?_eq_getElem (by rw [hL']; exact cj)⟩
          obtain ⟨g, rfl, -, hgB, hgl⟩ := ho.blk (i := j) (by rw [hL']; exact cj)
          obtain ⟨x0, x1, x2, xf⟩ := kl_at ho hx
          have xf1 := xf (j * 3 + 1)
          have hjw : IntKind.i64.wrap ((j : Int) + 1) = ((j + 1 : Nat) : Int) := by rw [IntWalk.i64_in _ (by omega)]; omega
          have HB2 := Lib.hid (show Below w.heap.size w (wr.setCell ⟨g, j * 3 + 1, none⟩ (.string ⟨#[42]⟩)) from HB.out.setCell hgB _)
          have HR2 := Lib.hid (show RowW KL (wr.setCell ⟨g, j * 3 + 1, none⟩ (.string ⟨#[42]⟩)) w.heap.size (.slice (some ⟨g, 0, none⟩) nq qc) nq from ⟨_, by rw [List.length_set]; exact hL', kl_res ho hx [42]⟩)
          skip
          clear ho hx hL' hgB hgl xf
          go_wp2_with fail
          go_roundw
          case rel => exact ⟨j + 1, by omega, by first | rfl | go_num, HB2, HR2⟩
          case measure => simp [intOf]; omega
        · obtain rfl : j = nq := by omega
          have cf : decide ((j : Int) < (j : Int)) = false := by simp
          have HED := Lib.hid ((HA.out.below HB.out).edges HZ.out.1 HZ.out.2.1)
          go_wp2_with fail
          refine HED.out.mono ?_
          rintro e w12 ⟨ve, E, rfl, hoE, hES, hb12⟩
          have HB12 := Lib.hid (HB.out.trans (hb12.mono HB.out.size))
          have HOE := Lib.hid (hoE.le HB.out.size)
          have HES := Lib.hid hES
          have HRE := Lib.hid (redges_any (HR.out.below HB12.out) HZ.out.2.2.2 HZ.out.2.1)
          clear hoE hES hb12 HED
          go_wp2_with fail
          refine HRE.out.mono ?_
          rintro e w13 ⟨ve2, E2, rfl, hoE2, hES2, hb13⟩
          obtain rfl : E2 = E := EdS.one mds hES2 HES.out
          have HB13 := Lib.hid (HB12.out.trans (hb13.mono HB12.out.size))
          have HOE13 := Lib.hid ((Frm.of_below (F := fun _ => False) hb13).owG HOE.out (fun _ _ e => e))
          have hsg := sameedges_any w13 _ _ ve ve2 E2 E2 HOE13.out hoE2
          rw [decide_eq_true (rfl : E2 = E2)] at hsg
          have HSG := Lib.hid hsg
          clear hoE2 hES2 hb13 hsg HRE HOE
          go_wp2_with fail
          refine HSG.out.mono ?_
          rintro e w14 ⟨rfl, hb14⟩
          have HBX := Lib.hid (HB13.out.trans (hb14.mono HB13.out.size))
          have hoe14 := (Frm.of_below (F := fun _ => False) hb14).owG HOE13.out (fun _ _ e => e)
          obtain ⟨ea, ec, hee, hec, hem⟩ := hoe14.sl
          obtain ⟨ne, hne⟩ : ∃ n, E2.length = n := ⟨_, rfl⟩
          rw [hne] at hee hec
          subst hee
          have hne9 : ne ≤ 9223372036854775807 := by unfold maxLen at hem; omega
          have HRX := Lib.hid (show RowW KG w14 w.heap.size (.slice ea ne ec) ne from ⟨E2, hne, OwG.kg hoe14⟩)
          clear hb14 hoe14 hec hem hne HSG HOE13
          go_wp2_with fail
          go_loopw [101] (fun i wx => ∃ j : Nat, j ≤ ne ∧ i = .int .i64 j ∧ Hid (Below w.heap.size w wx) ∧ Hid (RowW KG wx w.heap.size (.slice ea ne ec) ne)) (fun i _ => ne - (intOf i).toNat)
          case atStart => exact ⟨0, Nat.zero_le _, rfl, HBX, HRX⟩
          case round =>
            clear HBX HRX
            obtain ⟨j, hj, rfl, HB, HRW⟩ := hrel
            by_cases cj : j < ne
            · have cj1 : (j : Int) < (ne : Int) := by omega
              have cj0 : (0 : Int) ≤ (j : Int) := by omega
              obtain ⟨L', hL', ho⟩ := HRW.out
              obtain ⟨x, hx⟩ : ∃ x, L'[j]? = some x := ⟨_, List.getElem?_eq_getElem (by rw [hL']; exact cj)⟩
              obtain ⟨g, rfl, -, hgB, hgl⟩ := ho.blk (i := j) (by rw [hL']; exact cj)
              obtain ⟨x0, x1, xf⟩ := kg_at ho hx
              have xf1 := xf (j * 2 + 1)
              have hjw : IntKind.i64.wrap ((j : Int) + 1) = ((j + 1 : Nat) : Int) := by rw [IntWalk.i64_in _ (by omega)]; omega
              have HB2 := Lib.hid (show Below w.heap.size w (wr.setCell ⟨g, j * 2 + 1, none⟩ (.int .i64 (-9))) from HB.out.setCell hgB _)
              have HR2 := Lib.hid (show RowW KG (wr.setCell ⟨g, j * 2 + 1, none⟩ (.int .i64 (-9))) w.heap.size (.slice (some ⟨g, 0, none⟩) ne ec) ne from ⟨_, by rw [List.length_set]; exact hL', kg_to ho hx (-9)⟩)
              skip
              clear ho hx hL' hgB hgl xf
              go_wp2_with fail
              go_roundw
              case rel => exact ⟨j + 1, by omega, by first | rfl | go_num, HB2, HR2⟩
              case measure => simp [intOf]; omega
            · obtain rfl : j = ne := by omega
              have cf : decide ((j : Int) < (j : Int)) = false := by simp
              have HF := Lib.hid (show P (.returned (.bool true)) wr by rw [← HP.out]; exact ⟨rfl, HB.out⟩)
              go_wp2_with fail
              first | exact HF.out | simpa using HF.out

end Go.Proofs.YtelfinhpjokmdaaGreatDoor

namespace Go.Proofs.YtelfinhpjokmdaaGreatDoor
set_option maxRecDepth 100000
open Go.RowKit Go.Joins Go.ChangeShapes Go.WideShapes
open Go.MapKept
set_option linter.unusedVariables false
set_option linter.unnecessarySimpa false
set_option linter.unusedSimpArgs false

/-- the program's table tells T, the document's U -/
structure Pl (w wx : World) (b rb : Nat) (F : Bl) (T U : TbL RS) (vh vw : Value) : Prop where
  tb : TbA w wx b F T
  rf : RfM wx w.heap.size rb vh vw U.hv U.wt
  ap : ∀ k, F k → ¬ blkD rb vh vw k
section
variable {w wx wy : World} {b rb : Nat} {F F' : Bl} {T T' U U' : TbL RS} {vh vw : Value}
theorem Pl.below (h : Pl w wx b rb F T U vh vw) (hb : Below wx.heap.size wx wy) : Pl w wy b rb F T U vh vw := ⟨h.tb.below hb, h.rf.below hb, h.ap⟩
theorem Pl.ours (h : Pl w wx b rb F T U vh vw) (hT : TbA w wy b F' T') (hf : Frm F wx wy) (hn : New wx F F') : Pl w wy b rb F' T' U vh vw :=
  ⟨hT, h.rf.step hf (fun k hk c => h.ap k c hk), fun k hk c => (hn k hk).elim (fun e => h.ap k e c) (fun e => by have := (h.rf.blk c).2; omega)⟩
theorem Pl.theirs (h : Pl w wx b rb F T U vh vw) (hg : WentD wx wy w.heap.size rb vh vw U'.hv U'.wt) : ∃ vh' vw', Pl w wy b rb F T U' vh' vw' ∧ Frm (blkD rb vh vw) wx wy := by
  obtain ⟨vh', vw', hM, hf, hn⟩ := hg
  refine ⟨vh', vw', ⟨h.tb.step hf (fun k hk c => h.ap k c hk) (fun k hk => (h.rf.blk hk).1), hM, fun k hk c => (hn k c).elim (fun e => h.ap k hk e) (fun e => by have := h.tb.hi hk; omega)⟩, hf⟩
end
/-- a step of the script in its box -/
structure OpB (w : World) (p : Nat) (x : Op10) : Prop where
  hd : w.heap[p]? = some (.cells #[.int .i64 x.kind, .int .i64 x.txn, .int .i64 x.mode, .string ⟨x.res.toArray⟩] 32 (0, 0))
theorem OpB.lt {w : World} {p : Nat} {x : Op10} (h : OpB w p x) : p < w.heap.size := (Array.getElem?_eq_some_iff.1 h.hd).1
theorem OpB.cells {w : World} {p : Nat} {x : Op10} (h : OpB w p x) : w.cell? ⟨p, 0, none⟩ = some (.int .i64 x.kind) ∧ w.cell? ⟨p, 1, none⟩ = some (.int .i64 x.txn) ∧ w.cell? ⟨p, 2, none⟩ = some (.int .i64 x.mode) ∧ w.cell? ⟨p, 3, none⟩ = some (.string ⟨x.res.toArray⟩) :=
  ⟨by rw [cell_of_block h.hd]; rfl, by rw [cell_of_block h.hd]; rfl, by rw [cell_of_block h.hd]; rfl, by rw [cell_of_block h.hd]; rfl⟩
theorem OpB.step {w w' : World} {p : Nat} {x : Op10} {F : Bl} (h : OpB w p x) (hf : Frm F w w') (hp : ¬ F p) : OpB w' p x := ⟨(hf.heap h.lt hp).trans h.hd⟩
theorem OpB.below {w w' : World} {p : Nat} {x : Op10} (h : OpB w p x) (hb : Below w.heap.size w w') : OpB w' p x := ⟨(hb.block _ h.lt).trans h.hd⟩

end Go.Proofs.YtelfinhpjokmdaaGreatDoor
