/-
  slices.Clone and Insert at the tree's parts: contracts over the translation.
  Conditions: none.
-/
import Derived.Test.YtncganfjbalkgaaTr2
namespace Go.Proofs.Ytncganfjbalkgaa
open Go.RowKit Go.Joins Go.ChangeShapes Go.WideShapes
set_option linter.unusedVariables false

set_option maxHeartbeats 1000000 in
set_option maxRecDepth 100000 in
theorem clone_any (w : World) (g off m c : Nat) (rs : List Pv) (hm : rs.length = m) (hnews : ∀ j u, (pcells rs)[j]? = some u → w.cell? ((⟨g, off, none⟩ : Addr).add j) = some u) (hsz : m ≤ 4294967296) :
    Calls Try.prog 44 #[.slice (some ⟨g, off, none⟩) m c] w fun e w' => ∃ v', e = .returned v' ∧ OwP w' w.heap.size v' rs ∧ Below w.heap.size w w' := by
  generalize hP : (fun (e : Ending) (w' : World) => ∃ v', e = .returned v' ∧ OwP w' w.heap.size v' rs ∧ Below w.heap.size w w') = P
  have hpost : ∀ v' w', OwP w' w.heap.size v' rs → Below w.heap.size w w' → P (.returned v') w' := by
    intro v' w' h1 h2; rw [← hP]; exact ⟨v', rfl, h1, h2⟩
  have HP := Lib.hid hpost
  obtain ⟨W1, hW1⟩ : ∃ W1, W1 = w.alloc (.cells #[] 77) := ⟨_, rfl⟩
  have HO := Lib.hid (show OwP W1 w.heap.size (.slice (some ⟨w.heap.size, 0, none⟩) 0 0) [] by rw [hW1]; exact World.ownsRow_made w #[] 0 (Nat.le_refl _) (by decide) rfl)
  have hb : Below w.heap.size w W1 := by rw [hW1]; exact (Below.refl _ _).alloc (Nat.le_refl _) _
  have HB := Lib.hid hb
  have HN := Lib.hid (show ∀ j u, (pcells rs)[j]? = some u → W1.cell? ((⟨g, off, none⟩ : Addr).add j) = some u by rw [hW1]; exact fun j u h => Lib.cell?_alloc_some _ (hnews j u h))
  have HW := Lib.hid hW1
  have HM := Lib.hid hm
  have heq : (binOp .eql 67 (.slice (some ⟨g, off, none⟩) m c) (.slice none 0 0)).run Try.prog w = .ok (.bool false) w := Lib.run_eql_slice_nil w _ _ _ _ _ _ _ Try.underlying67
  clear hpost hP hnews hb hW1 hm
  go_enter Try.func44, Try.ntmps44
  go_wp2_with (first | (at_builtin; rw [← HW.out]; refine wp_pushP rfl (.tmp 5) (.tmp 6) rfl w.heap.size (.slice (some ⟨w.heap.size, 0, none⟩) 0 0) [] rfl HO.out HB.out.size ⟨g, off, none⟩ m c rs HM.out rfl HN.out (by simp; omega) ?_; intro v1 w1 hown1 hgrow1 hnew1; have HX := Lib.hid (And.intro hown1 (HB.out.grown hgrow1 HB.out.size (fun k hk => (HO.out.lt k hk).1))); clear hown1 hgrow1 hnew1))
  exact HP.out _ _ (by have := HX.out.1; simpa using this) HX.out.2

/-- a part that has just been laid in a block of its own -/
def BoxP (w : World) (gv : Nat) (p : Pv) : Prop := w.heap[gv]? = some (.cells #[.string p.1, .int .i64 p.2.1, kp p.2.2] 77 (0, 0))
theorem BoxP.news {w : World} {gv : Nat} {p : Pv} (h : BoxP w gv p) : ∀ j u, (pcells [p])[j]? = some u → w.cell? ((⟨gv, 0, none⟩ : Addr).add j) = some u :=
  World.news_of_block (cs := #[.string p.1, .int .i64 p.2.1, kp p.2.2]) h

theorem insert_row {l : List Pv} {p : Pv} {i : Nat} (hi : i ≤ l.length) : (l.take i ++ p :: l.drop i).length = l.length + 1 := by
  rw [List.length_append, List.length_cons, List.length_take, List.length_drop]; omega

/-- at the end -/
theorem ins_end (B : Nat) (w : World) (hB : B ≤ w.heap.size) (v : Value) (l : List Pv) (hown : OwP w B v l) (hsz : l.length ≤ 4294967296) (p : Pv) (gv : Nat) (hv : BoxP w gv p) :
    Calls Try.prog 42 #[v, .int .i64 (l.length : Nat), .slice (some ⟨gv, 0, none⟩) 1 1] w fun e w' => ∃ v', e = .returned v' ∧ OwP w' B v' (l ++ [p]) ∧ w.grownBy w' v.ownBlock ∧ NewB w v v' := by
  generalize hP : (fun (e : Ending) (w' : World) => ∃ v', e = .returned v' ∧ OwP w' B v' (l ++ [p]) ∧ w.grownBy w' v.ownBlock ∧ NewB w v v') = P
  have hpost : ∀ v' w', OwP w' B v' (l ++ [p]) → w.grownBy w' v.ownBlock → NewB w v v' → P (.returned v') w' := by
    intro v' w' h1 h2 h3; rw [← hP]; exact ⟨v', rfl, h1, h2, h3⟩
  have HP := Lib.hid hpost
  have HO := Lib.hid hown
  have HN := Lib.hid hv.news
  have hf : ∃ a cap, v = .slice a l.length cap ∧ l.length ≤ cap := by
    rcases hown.cases with ⟨rfl, rfl⟩ | ⟨g, cap, cur, rfl, hb, hg, hn, hc, hs, ht⟩
    · exact ⟨none, 0, rfl, Nat.le_refl _⟩
    · exact ⟨_, cap, rfl, hn⟩
  obtain ⟨a, cap, rfl, hcap⟩ := hf
  obtain ⟨n, hn⟩ : ∃ n, l.length = n := ⟨_, rfl⟩
  have HL := Lib.hid hn
  rw [hn] at HP HO hsz hcap ⊢
  clear hpost hP hown hv hn
  go_enter Try.func42, Try.ntmps42
  go_wp2_with (first | (at_builtin; refine wp_pushP rfl (.tmp 23) (.tmp 24) rfl B _ l rfl HO.out hB ⟨gv, 0, none⟩ 1 1 [p] rfl rfl HN.out (by rw [HL.out]; omega) ?_; intro v1 w1 hown1 hgrow1 hnew1; have HX := Lib.hid (And.intro hown1 (And.intro hgrow1 hnew1)); clear hown1 hgrow1 hnew1))
  all_goals exact HP.out _ _ HX.out.1 HX.out.2.1 HX.out.2.2

set_option maxHeartbeats 4000000 in
set_option maxRecDepth 100000 in
/-- there is room -/
theorem ins_room (B : Nat) (w : World) (g cap : Nat) (l : List Pv) (hown : OwP w B (.slice (some ⟨g, 0, none⟩) l.length cap) l) (hsz : l.length ≤ 4294967296) (i : Nat) (hi : i < l.length) (hr : l.length + 1 ≤ cap) (p : Pv) (gv : Nat) (hv : BoxP w gv p) (hne : gv ≠ g) :
    Calls Try.prog 42 #[.slice (some ⟨g, 0, none⟩) l.length cap, .int .i64 i, .slice (some ⟨gv, 0, none⟩) 1 1] w fun e w' => ∃ v', e = .returned v' ∧ OwP w' B v' (l.take i ++ p :: l.drop i) ∧ w.grownBy w' (some g) ∧ v'.ownBlock = some g := by
  obtain ⟨cur, hb, hg, hc, hs, ht⟩ : ∃ cur : List Value, B ≤ g ∧ w.heap[g]? = some (.cells cur.toArray 77 (0, 0)) ∧ cap ≤ maxLen ∧ cur.length = cap * 3 ∧ cur.take (l.length * 3) = pcells l := by
    rcases hown.cases with ⟨e, -⟩ | ⟨g', cap', cur, e, hb, hg, hn, hc, hs, ht⟩
    · simp at e
    · simp only [Value.slice.injEq, Option.some.injEq, Addr.mk.injEq, and_true, true_and] at e
      obtain ⟨rfl, rfl⟩ := e
      exact ⟨cur, hb, hg, hc, hs, ht⟩
  generalize hP : (fun (e : Ending) (w' : World) => ∃ v', e = .returned v' ∧ OwP w' B v' (l.take i ++ p :: l.drop i) ∧ w.grownBy w' (some g) ∧ v'.ownBlock = some g) = P
  have hd : (l.drop i).length = l.length - i := List.length_drop
  have hlen := insert_row (p := p) (Nat.le_of_lt hi)
  obtain ⟨cur1, hcur1⟩ : ∃ c, c = splice cur ((i + 1) * 3) (pcells (l.drop i)) := ⟨_, rfl⟩
  obtain ⟨cur2, hcur2⟩ : ∃ c, c = splice cur1 (i * 3) (pcells [p]) := ⟨_, rfl⟩
  obtain ⟨W1, hW1⟩ : ∃ W1, W1 = w.drew.setRow g cur1.toArray := ⟨_, rfl⟩
  have hgd : w.drew.heap[g]? = some (.cells cur.toArray 77 (0, 0)) := hg
  have hg1 : W1.heap[g]? = some (.cells cur1.toArray 77 (0, 0)) := by rw [hW1]; exact setRow_heap _ _ _ _ _ _ hgd
  have l1 : cur1.length = cap * 3 := by rw [hcur1, length_splice _ _ _ (by rw [pcells_length, hd]; omega), hs]
  have l2 : cur2.length = cap * 3 := by rw [hcur2, length_splice _ _ _ (by rw [pcells_length, List.length_singleton]; omega), l1]
  have hpost : ∀ w', w' = W1.setRow g cur2.toArray → P (.returned (.slice (some ⟨g, 0, none⟩) (l.length + 1) cap)) w' := by
    intro w' hw'
    rw [← hP]
    refine ⟨_, rfl, ?_, ?_, rfl⟩
    · rw [← hlen]
      refine OwP.mk (cur := cur2) hb ?_ (by rw [hlen]; omega) hc l2 ?_
      · rw [hw']; exact setRow_heap _ _ _ _ _ _ hg1
      · rw [hlen, show l.take i ++ p :: l.drop i = l.take i ++ [p] ++ l.drop i by simp, pcells_app, pcells_app, hcur2, hcur1]
        have := splice_two' (X := pcells (l.take i)) (Y := pcells [p]) (Z := pcells (l.drop i)) (cur := cur) (a := i * 3) (by rw [← pcells_take, ← ht, List.take_take]; congr 1; omega) (by rw [pcells_length, List.length_take]; omega) (by rw [pcells_length, pcells_length, hd, List.length_singleton]; omega)
        rw [pcells_length, pcells_length, hd, List.length_singleton, show i * 3 + 1 * 3 + (l.length - i) * 3 = (l.length + 1) * 3 by omega, show i * 3 + 1 * 3 = (i + 1) * 3 by omega] at this
        exact this
    · rw [hw', hW1]
      exact ⟨rfl, rfl, rfl, by simp, fun k hk hne => by
        have : k ≠ g := fun e => hne (by rw [e])
        rw [setRow_other _ _ _ _ this, setRow_other _ _ _ _ this]; rfl⟩
  have hov : ∀ lb cb, (callFunc 51 #[.slice (some ⟨gv, 0, none⟩) 1 1, .slice (some ⟨g, (i + 1) * 3, none⟩) lb cb]).run Try.prog w = .ok (.value (.bool false)) w := fun lb cb => by
    rw [run_callFunc_extern (fn := Try.f51) (by kernel_rfl) (by kernel_rfl) (by kernel_rfl) (by kernel_rfl) (e := Extern.SlicesOverlaps.overlaps #[67, 67] #[4]) (by kernel_rfl),
      Lib.run_overlaps_apart w 67 4 77 Try.underlying67 3 (fun w => by first | rfl | kernel_rfl) ⟨gv, 0, none⟩ ⟨g, (i + 1) * 3, none⟩ 1 1 lb cb hne 77 77 3 (cap * 3) (by unfold World.shape?; rw [hv]; rfl) (by unfold World.shape?; rw [hg]; simp [hs]) (by omega) (unfrozen_of_block hv _) (unfrozen_of_block hv _)]
    rfl
  have HP := Lib.hid hpost
  have HG := Lib.hid hgd
  have HG1 := Lib.hid hg1
  have HS := Lib.hid hs
  have HL1 := Lib.hid l1
  have HD := Lib.hid hd
  have HW := Lib.hid (show W1 = w.drew.setRow g (splice cur ((i + 1) * 3) (pcells (l.drop i))).toArray by rw [hW1, hcur1])
  have HC2 := Lib.hid hcur2
  have HSR := Lib.hid (show ∀ j u, (pcells (l.drop i))[j]? = some u → w.drew.cell? ((⟨g, i * 3, none⟩ : Addr).add j) = some u from hown.from i)
  have HVN := Lib.hid (show ∀ j u, (pcells [p])[j]? = some u → W1.cell? ((⟨gv, 0, none⟩ : Addr).add j) = some u by
    intro j u h
    rw [hW1]
    have := hv.news j u h
    have ea : (⟨gv, 0, none⟩ : Addr).add j = ⟨gv, j, none⟩ := add0 gv j
    rw [ea] at this ⊢
    rw [cell_setRow_other _ _ _ _ hne]
    exact this)
  have h1 : i ≤ l.length := by omega
  have h2 : i ≤ cap := by omega
  have h3 : i + 1 ≤ l.length + 1 := by omega
  have h4 : i + 1 ≤ cap := by omega
  have h5 : ¬ cap = i := by omega
  have h6 : ¬ cap = i + 1 := by omega
  have h7 : ¬ (i : Int) = (l.length : Int) := by omega
  have h8 : l.length + 1 ≤ cap := hr
  have h9 : ¬ ((cap : Int) < (l.length : Int) + 1) := by omega
  generalize l.length = n at *
  unfold maxLen at hc
  have hw1 : IntKind.i64.wrap ((i : Int) + 1) = (i : Int) + 1 := IntWalk.i64_in _ (by omega)
  have hw2 : (0 : Int) ≤ (i : Int) + 1 := by omega
  have hw3 : ((i : Int) + 1).toNat = i + 1 := by omega
  have hw4 : (i : Int) ≤ (n : Int) := by omega
  have hw5 : (i : Int) ≤ (n : Int) + 1 := by omega
  clear hpost hP hgd hs hd hg hg1 l1 l2 hcur1 hcur2 hW1 ht hlen hown hv
  go_enter Try.func42, Try.ntmps42
  go_wp2_with (simp only [hov])
  go_region_law (refine step_copyP rfl (.tmp 73) (.tmp 76) rfl g ((i + 1) * 3) _ _ ⟨g, i * 3, none⟩ _ _ (by simp [Act.eval, Act.put]; exact ⟨rfl, rfl⟩) (by simp [Act.eval, Act.put]; exact ⟨rfl, rfl⟩) cur _ HG.out (l.drop i) (by rw [HD.out]; simp only [Nat.min_def]; split <;> omega) HSR.out (by rw [HD.out, HS.out]; omega) ?_; rw [← HW.out]; rintro w1 rfl)
  go_wp2_with (refine wp_copyP rfl (.tmp 80) (.tmp 81) rfl g (i * 3) _ _ ⟨gv, 0, none⟩ _ _ rfl rfl cur1 _ HG1.out [p] (by simp only [Nat.min_def, List.length_singleton]; split <;> omega) HVN.out (by rw [HL1.out, List.length_singleton]; omega) ?_; rw [← HC2.out]; rintro w2 rfl)
  exact HP.out _ rfl

set_option maxHeartbeats 4000000 in
set_option maxRecDepth 100000 in
/-- there is no room -/
theorem ins_grow (B : Nat) (w : World) (hB : B ≤ w.heap.size) (g cap : Nat) (l : List Pv) (hown : OwP w B (.slice (some ⟨g, 0, none⟩) l.length cap) l) (hsz : l.length ≤ 4294967296) (i : Nat) (hi : i < l.length) (hr : cap < l.length + 1) (p : Pv) (gv : Nat) (hv : BoxP w gv p) :
    Calls Try.prog 42 #[.slice (some ⟨g, 0, none⟩) l.length cap, .int .i64 i, .slice (some ⟨gv, 0, none⟩) 1 1] w fun e w' => ∃ v', e = .returned v' ∧ OwP w' B v' (l.take i ++ p :: l.drop i) ∧ w.grownBy w' none ∧ ∀ k, v'.ownBlock = some k → w.heap.size ≤ k := by
  obtain ⟨cur0, hb, hg, hc, hs, ht, hn⟩ : ∃ cur : List Value, B ≤ g ∧ w.heap[g]? = some (.cells cur.toArray 77 (0, 0)) ∧ cap ≤ maxLen ∧ cur.length = cap * 3 ∧ cur.take (l.length * 3) = pcells l ∧ l.length ≤ cap := by
    rcases hown.cases with ⟨e, -⟩ | ⟨g', cap', cur, e, hb, hg, hn, hc, hs, ht⟩
    · simp at e
    · simp only [Value.slice.injEq, Option.some.injEq, Addr.mk.injEq, and_true, true_and] at e
      obtain ⟨rfl, rfl⟩ := e
      exact ⟨cur, hb, hg, hc, hs, ht, hn⟩
  generalize hP : (fun (e : Ending) (w' : World) => ∃ v', e = .returned v' ∧ OwP w' B v' (l.take i ++ p :: l.drop i) ∧ w.grownBy w' none ∧ ∀ k, v'.ownBlock = some k → w.heap.size ≤ k) = P
  have hd : (l.drop i).length = l.length - i := List.length_drop
  have hlen := insert_row (p := p) (Nat.le_of_lt hi)
  have hgl : g < w.heap.size := (Array.getElem?_eq_some_iff.1 hg).1
  have hvl : gv < w.heap.size := (Array.getElem?_eq_some_iff.1 hv).1
  -- the new row
  obtain ⟨i0, hi0, hz0, hz1, hz2⟩ := info_parts infoP
  have hold : (Builtin.firstCells i0.size i (.slice (some ⟨g, 0, none⟩) i cap)).run Try.prog w.drew = .ok (pcells (l.take i)).toArray w.drew :=
    run_firstCells_some w.drew _ i ⟨g, 0, none⟩ i cap _ (by rw [pcells_length, hz1, List.length_take]; omega) (fun j u hj => by
      rw [← pcells_take, List.getElem?_take] at hj
      split at hj
      · have := hown.from 0 j u hj
        exact this
      · cases hj)
  obtain ⟨k, hk⟩ : ∃ k, k = l.length + 1 - i := ⟨_, rfl⟩
  have hge := grownCap_ge w (i + k) cap 77
  have hcm : grownCap w (i + k) cap 77 ≤ maxLen := grownCap_le_maxLen w (i + k) cap _ (by unfold maxLen; omega)
  have hrun0 : ∀ ty, _ := fun ty => Lib.run_append_grow_zeros (P := Try.prog) w 67 3 ty 77 i0 _ .i64 .i64 Try.underlying67 Try.underlying3 hi0 hz0 (some ⟨g, 0, none⟩) i cap _ hold k (by omega) (by omega) (by omega) (by omega) (by rw [hz2]; omega) (growslice_fits (by omega) (by rw [hz2]; omega))
  obtain ⟨c1, hc1⟩ : ∃ c, c = grownCap w (i + k) cap 77 := ⟨_, rfl⟩
  obtain ⟨cur, hcur⟩ : ∃ cur : List Value, cur = pcells (l.take i) ++ pcells (List.replicate k zp) ++ pcells (List.replicate (c1 - (i + k)) zp) := ⟨_, rfl⟩
  obtain ⟨W0, hW0⟩ : ∃ W0, W0 = w.drew.alloc (.cells cur.toArray 77) := ⟨_, rfl⟩
  have hrun : ∀ ty, (Builtin.append_ #[67, 3] ty #[.slice (some ⟨g, 0, none⟩) i cap, .int .i64 ((l.length : Int) + 1 - (i : Int))]).run Try.prog w = .ok (.slice (some ⟨w.heap.size, 0, none⟩) (l.length + 1) c1) W0 := by
    intro ty
    have := hrun0 ty
    rw [← hc1] at this
    rw [show ((l.length : Int) + 1 - (i : Int)) = ((k : Nat) : Int) by omega, this, hW0, hcur, show i + k = l.length + 1 by omega]
    congr 3
    apply Array.toList_inj.1
    simp only [Array.toList_append, zeroCells_p, List.append_assoc]
  rw [← hc1, show i + k = l.length + 1 by omega] at hge
  have hg0 : W0.heap[w.heap.size]? = some (.cells cur.toArray 77 (0, 0)) := by rw [hW0]; exact heap_alloc_new w.drew _
  have hs0 : cur.length = c1 * 3 := by
    rw [hcur, List.length_append, List.length_append, pcells_length, pcells_length, pcells_length, List.length_take, List.length_replicate, List.length_replicate]; omega
  have ht0 : cur.take (i * 3) = pcells (l.take i) := by
    rw [hcur, List.append_assoc, show i * 3 = (pcells (l.take i)).length by rw [pcells_length, List.length_take]; omega]
    exact List.take_left
  obtain ⟨cur1, hcur1⟩ : ∃ c, c = splice cur (i * 3) (pcells [p]) := ⟨_, rfl⟩
  obtain ⟨cur2, hcur2⟩ : ∃ c, c = splice cur1 ((i + 1) * 3) (pcells (l.drop i)) := ⟨_, rfl⟩
  obtain ⟨W1, hW1⟩ : ∃ W1, W1 = W0.setRow w.heap.size cur1.toArray := ⟨_, rfl⟩
  have hg1 : W1.drew.heap[w.heap.size]? = some (.cells cur1.toArray 77 (0, 0)) := by rw [hW1]; exact setRow_heap _ _ _ _ _ _ hg0
  have l1 : cur1.length = c1 * 3 := by rw [hcur1, length_splice _ _ _ (by rw [pcells_length, List.length_singleton]; omega), hs0]
  have l2 : cur2.length = c1 * 3 := by rw [hcur2, length_splice _ _ _ (by rw [pcells_length, hd]; omega), l1]
  have hpost : ∀ w', w' = W1.drew.setRow w.heap.size cur2.toArray → P (.returned (.slice (some ⟨w.heap.size, 0, none⟩) (l.length + 1) c1)) w' := by
    intro w' hw'
    rw [← hP]
    refine ⟨_, rfl, ?_, ?_, ?_⟩
    · rw [← hlen]
      refine OwP.mk (cur := cur2) hB ?_ (by rw [hlen]; omega) (by rw [hc1]; exact hcm) l2 ?_
      · rw [hw']; exact setRow_heap _ _ _ _ _ _ hg1
      · rw [hlen, show l.take i ++ p :: l.drop i = l.take i ++ [p] ++ l.drop i by simp, pcells_app, pcells_app, hcur2, hcur1]
        have := splice_two (X := pcells (l.take i)) (Y := pcells [p]) (Z := pcells (l.drop i)) (cur := cur) (a := i * 3) ht0 (by rw [pcells_length, List.length_take]; omega) (by rw [pcells_length, pcells_length, hd, List.length_singleton]; omega)
        rw [pcells_length, pcells_length, hd, List.length_singleton, show i * 3 + 1 * 3 + (l.length - i) * 3 = (l.length + 1) * 3 by omega, show i * 3 + 1 * 3 = (i + 1) * 3 by omega] at this
        exact this
    · rw [hw', hW1, hW0]
      exact ⟨rfl, rfl, rfl, by simp, fun k hk hne => by
        have h1 : k ≠ w.heap.size := by omega
        rw [setRow_other _ _ _ _ h1]
        show (World.setRow _ _ _).heap[k]? = _
        rw [setRow_other _ _ _ _ h1]
        exact heap_alloc_old w.drew _ hk⟩
    · intro k hk
      simp only [Value.ownBlock, Option.some.injEq] at hk
      omega
  have HP := Lib.hid hpost
  have HG0 := Lib.hid hg0
  have HG1 := Lib.hid hg1
  have HS := Lib.hid hs0
  have HL1 := Lib.hid l1
  have HD := Lib.hid hd
  have HW := Lib.hid (show W1 = W0.setRow w.heap.size (splice cur (i * 3) (pcells [p])).toArray by rw [hW1, hcur1])
  have HC2 := Lib.hid hcur2
  have hcell : ∀ b, b < w.heap.size → W0.heap[b]? = w.heap[b]? := by intro b hb; rw [hW0]; exact heap_alloc_old w.drew _ hb
  have HVN := Lib.hid (show ∀ j u, (pcells [p])[j]? = some u → W0.cell? ((⟨gv, 0, none⟩ : Addr).add j) = some u by
    intro j u h
    have := hv.news j u h
    rw [add0] at this ⊢
    rw [← this]
    exact World.cell?_of_block (a := ⟨gv, j, none⟩) (hcell gv hvl))
  have HSR := Lib.hid (show ∀ j u, (pcells (l.drop i))[j]? = some u → W1.drew.cell? ((⟨g, i * 3, none⟩ : Addr).add j) = some u by
    intro j u h
    have := hown.from i j u h
    have ea : (⟨g, i * 3, none⟩ : Addr).add j = ⟨g, i * 3 + j, none⟩ := by unfold Addr.add; split <;> simp_all
    rw [ea] at this ⊢
    rw [← this]
    refine World.cell?_of_block (a := ⟨g, i * 3 + j, none⟩) ?_
    show W1.heap[g]? = w.heap[g]?
    rw [hW1, setRow_other _ _ _ _ (by omega), hcell g hgl])
  have h1 : i ≤ l.length := by omega
  have h2 : i ≤ cap := by omega
  have h3 : i + 1 ≤ l.length + 1 := by omega
  have h4 : i + 1 ≤ c1 := by omega
  have h4b : i ≤ c1 := by omega
  have h5 : ¬ c1 = i := by omega
  have h6 : ¬ c1 = i + 1 := by omega
  have h5b : ¬ cap = i := by omega
  have h7 : ¬ (i : Int) = (l.length : Int) := by omega
  have h9 : (cap : Int) < (l.length : Int) + 1 := by omega
  clear hrun0 hcm hc1 hk hi0 hz0 hz1 hz2 hold hcell
  generalize l.length = n at *
  unfold maxLen at hc
  have hw1 : IntKind.i64.wrap ((i : Int) + 1) = (i : Int) + 1 := IntWalk.i64_in _ (by omega)
  have hw2 : (0 : Int) ≤ (i : Int) + 1 := by omega
  have hw3 : ((i : Int) + 1).toNat = i + 1 := by omega
  have hw4 : (i : Int) ≤ (n : Int) := by omega
  have hw5 : (i : Int) ≤ (n : Int) + 1 := by omega
  clear hpost hP hs hd hg hg0 hg1 hs0 ht0 l1 l2 hcur hcur1 hcur2 hW1 hW0 ht hlen hown hv
  have HR := Lib.hid hrun
  clear hrun
  go_enter Try.func42, Try.ntmps42
  go_wp2_with (first | (at_builtin; refine Lib.wpList_append_run _ rfl (.tmp 34) (.tmp 39) _ _ rfl _ _ rfl rfl _ _ (HR.out _) ?_) | (refine wp_copyP rfl (.tmp 43) (.tmp 44) rfl w.heap.size (i * 3) _ _ ⟨gv, 0, none⟩ _ _ rfl rfl cur _ HG0.out [p] (by simp only [Nat.min_def, List.length_singleton]; split <;> omega) HVN.out (by rw [HS.out, List.length_singleton]; omega) ?_; rw [← HW.out]; rintro w2 rfl))
  go_region_law (refine step_copyP rfl (.tmp 50) (.tmp 53) rfl w.heap.size ((i + 1) * 3) _ _ ⟨g, i * 3, none⟩ _ _ (by simp [Act.eval, Act.put]; exact ⟨rfl, rfl⟩) (by simp [Act.eval, Act.put]; exact ⟨rfl, rfl⟩) cur1 _ HG1.out (l.drop i) (by rw [HD.out]; simp only [Nat.min_def]; split <;> omega) HSR.out (by rw [HD.out, HL1.out]; omega) ?_; rw [← HC2.out]; rintro w1 rfl)
  go_wp2
  exact HP.out _ rfl

/-- slices.Insert -/
theorem ins_any (B : Nat) (w : World) (hB : B ≤ w.heap.size) (v : Value) (l : List Pv) (hown : OwP w B v l) (hsz : l.length ≤ 4294967296) (i : Nat) (hi : i ≤ l.length) (p : Pv) (gv : Nat) (hv : BoxP w gv p) (hne : v.ownBlock ≠ some gv) :
    Calls Try.prog 42 #[v, .int .i64 i, .slice (some ⟨gv, 0, none⟩) 1 1] w fun e w' => ∃ v', e = .returned v' ∧ OwP w' B v' (l.take i ++ p :: l.drop i) ∧ w.grownBy w' v.ownBlock ∧ NewB w v v' := by
  by_cases c : i = l.length
  · subst c
    rw [List.take_of_length_le (Nat.le_refl _), List.drop_eq_nil_of_le (Nat.le_refl _)]
    exact ins_end B w hB v l hown hsz p gv hv
  · rcases hown.cases with ⟨rfl, rfl⟩ | ⟨g, cap, cur, rfl, hb, hg, hn, hc, hs, ht⟩
    · simp at hi c; omega
    · by_cases r : l.length + 1 ≤ cap
      · refine (ins_room B w g cap l hown hsz i (by omega) r p gv hv (fun e => hne (by rw [e]; rfl))).mono ?_
        rintro e w' ⟨v', rfl, h1, h2, h3⟩
        exact ⟨v', rfl, h1, h2, fun k hk => .inl (by rw [h3] at hk; exact hk)⟩
      · refine (ins_grow B w hB g cap l hown hsz i (by omega) (by omega) p gv hv).mono ?_
        rintro e w' ⟨v', rfl, h1, h2, h3⟩
        exact ⟨v', rfl, h1, ⟨h2.os, h2.tape, h2.output, h2.size, fun k hk _ => h2.block k hk (by simp)⟩, fun k hk => .inr (h3 k hk)⟩

end Go.Proofs.Ytncganfjbalkgaa
