/-
  slices.Delete, Clone and Insert at the tree's parts: contracts over the translation.
  Conditions: none.
-/
import Derived.Test.YtncganfjbalkgaaTr1
import Derived.Lib.Overlaps
import Derived.Deep.RegionLaw
import Derived.StillTailTactics
namespace Go.Proofs.Ytncganfjbalkgaa
open Go.RowKit Go.Joins Go.ChangeShapes Go.WideShapes
set_option linter.unusedVariables false

/-- append with room, onto a row that is known whole, as a step of a region -/
theorem step_roomP {ops : Array Oper} {o : Oper} {a : Act} {w : World} {K : Act → World → Prop} {Q : Exit → Act → World → Prop} {E : Prop} (hgd : o.guard = none) (s x : Operand)
    (ho : o.op = .call { callee := .builtin .append, args := #[s, x], argTypes := #[67, 67] })
    (g n cap : Nat) (cur : List Value) (hs : a.eval s = .slice (some ⟨g, 0, none⟩) n cap) (hg : w.heap[g]? = some (.cells cur.toArray 77 (0, 0))) (hc : cur.length = cap * 3)
    (ad : Addr) (m c : Nat) (rs : List Pv) (hx : a.eval x = .slice (some ad) m c) (hm : rs.length = m)
    (hnews : ∀ j u, (pcells rs)[j]? = some u → w.cell? (ad.add j) = some u) (hroom : n + m ≤ cap)
    (h : ∀ w', w' = w.setRow g (splice cur (n * 3) (pcells rs)).toArray → K (a.put o.dst (.slice (some ⟨g, 0, none⟩) (n + m) cap)) w') : if Region.wanted o (yielded ops a.tmps) = true then Oper.wp Try.prog o a w K Q else E := by
  obtain ⟨i0, hi, hz0, hz1, hz2⟩ := info_parts infoP
  have hl : (pcells rs).length = m * 3 := by rw [pcells_length, hm]
  refine step_append_room hgd s x _ ho 77 i0 3 Try.underlying67 hi hz1 g 0 n cap hs ad m c (pcells rs) hx hl hnews (pcells_one rs) hroom
    (fun j hj => ⟨by rw [cell_of_block hg]; rw [List.getElem?_toArray, List.getElem?_eq_getElem (by rw [hl] at hj; omega)]; rfl, unfrozen_of_block hg _⟩) ?_
  rw [Nat.zero_add]
  exact h _ (setCells_row hg (by rw [hl, hc]; omega) (pcells_one rs))

set_option maxHeartbeats 4000000 in
set_option maxRecDepth 100000 in
theorem del_any (B : Nat) (w : World) (v : Value) (l : List Pv) (hown : OwP w B v l) (hsz : l.length ≤ 4294967296) (i j : Nat) (hij : i < j) (hj : j ≤ l.length) :
    Calls Try.prog 45 #[v, .int .i64 i, .int .i64 j] w fun e w' => ∃ v', e = .returned v' ∧ OwP w' B v' (l.take i ++ l.drop j) ∧ v'.ownBlock = v.ownBlock ∧ w.grownBy w' v.ownBlock := by
  rcases hown.cases with ⟨-, rfl⟩ | ⟨g, cap, cur, rfl, hb, hg, hn, hc, hs, ht⟩
  · simp at hj; omega
  generalize hP : (fun (e : Ending) (w' : World) => ∃ v', e = .returned v' ∧ OwP w' B v' (l.take i ++ l.drop j) ∧ v'.ownBlock = (Value.slice (some ⟨g, 0, none⟩) l.length cap).ownBlock ∧ w.grownBy w' (Value.slice (some ⟨g, 0, none⟩) l.length cap).ownBlock) = P
  have hlen : (l.take i ++ l.drop j).length = i + (l.length - j) := by rw [List.length_append, List.length_take, List.length_drop]; omega
  have hd : (l.drop j).length = l.length - j := List.length_drop
  obtain ⟨cur1, hcur1⟩ : ∃ c, c = splice cur (i * 3) (pcells (l.drop j)) := ⟨_, rfl⟩
  obtain ⟨cur2, hcur2⟩ : ∃ c, c = splice cur1 ((i + (l.length - j)) * 3) (pcells (List.replicate (l.length - (i + (l.length - j))) zp)) := ⟨_, rfl⟩
  obtain ⟨W1, hW1⟩ : ∃ W1, W1 = w.drew.setRow g cur1.toArray := ⟨_, rfl⟩
  have hgd : w.drew.heap[g]? = some (.cells cur.toArray 77 (0, 0)) := hg
  have hg1 : W1.heap[g]? = some (.cells cur1.toArray 77 (0, 0)) := by rw [hW1]; exact setRow_heap _ _ _ _ _ _ hgd
  have l1 : cur1.length = cap * 3 := by rw [hcur1, length_splice _ _ _ (by rw [pcells_length, hd]; omega), hs]
  have l2 : cur2.length = cap * 3 := by rw [hcur2, length_splice _ _ _ (by rw [pcells_length, List.length_replicate]; omega), l1]
  have hpost : ∀ w', w' = W1.setRow g cur2.toArray → P (.returned (.slice (some ⟨g, 0, none⟩) (i + (l.length - j)) cap)) w' := by
    intro w' hw'
    rw [← hP]
    refine ⟨_, rfl, ?_, rfl, ?_⟩
    · rw [← hlen]
      refine OwP.mk (cur := cur2) hb ?_ (by omega) hc l2 ?_
      · rw [hw']; exact setRow_heap _ _ _ _ _ _ hg1
      · rw [hlen, hcur2, splice_far (Nat.le_refl _) (by rw [l1]; omega), hcur1, pcells_app, show (i + (l.length - j)) * 3 = i * 3 + (pcells (l.drop j)).length by rw [pcells_length, hd]; omega]
        refine splice_one ?_ ?_ (by rw [pcells_length, hd]; omega)
        · rw [← pcells_take, ← ht, List.take_take]; congr 1; omega
        · rw [pcells_length, List.length_take]; omega
    · rw [hw', hW1]
      exact ⟨rfl, rfl, rfl, by simp, fun k hk hne => by
        have : k ≠ g := fun e => hne (by rw [e]; rfl)
        rw [setRow_other _ _ _ _ this, setRow_other _ _ _ _ this]; rfl⟩
  have hcl : ∀ ty, (Builtin.clear_ #[67] ty #[.slice (some ⟨g, (i + (l.length - j)) * 3, none⟩) (l.length - (i + (l.length - j))) (cap - (i + (l.length - j)))]).run Try.prog W1 = .ok (.tuple #[]) (W1.setRow g cur2.toArray) := by
    intro ty
    rw [hcur2]
    exact run_clear_p W1 ty g _ _ _ cur1 _ hg1 (by omega) (by rw [l1]; omega)
  obtain ⟨A, hA, hsrc⟩ : ∃ A : Addr, (if cap = j then some (⟨g, 0, none⟩ : Addr) else some ⟨g, j * 3, none⟩) = some A ∧ Hid (∀ t u, (pcells (l.drop j))[t]? = some u → w.drew.cell? (A.add t) = some u) := by
    by_cases h : cap = j
    · refine ⟨⟨g, 0, none⟩, by simp [h], fun t u hu => ?_⟩
      rw [List.drop_eq_nil_of_le (by omega)] at hu
      simp [pcells] at hu
    · exact ⟨⟨g, j * 3, none⟩, by simp [h], hown.from j⟩
  have HP := Lib.hid hpost
  have HG := Lib.hid hgd
  have HS := Lib.hid hs
  have HD := Lib.hid hd
  have HW := Lib.hid (show W1 = w.drew.setRow g (splice cur (i * 3) (pcells (l.drop j))).toArray by rw [hW1, hcur1])
  have HC2 := Lib.hid l2
  have hhi : l.length ≤ cap := hn
  have hne : ¬ cap = i + (l.length - j) := by omega
  have hij2 : ¬ (i : Int) = (j : Int) := by omega
  have hic : i ≤ cap := by omega
  have hjc : j ≤ cap := by omega
  have hkc : i + (l.length - j) ≤ cap := by omega
  generalize l.length = n at *
  unfold maxLen at hc
  clear hpost hP hgd hs hd hg hg1 l1 l2 hcur1 hcur2 hW1 ht hlen hown
  go_enter Try.func45, Try.ntmps45
  go_wp2_with fail
  go_region_law (refine step_roomP rfl (.tmp 22) (.tmp 25) rfl g i cap cur (by simp [Act.eval, Act.put]) HG.out HS.out A (n - j) (cap - j) (l.drop j) (by simp [Act.eval, Act.put]) HD.out hsrc.out (by omega) ?_; rw [← HW.out]; rintro w1 rfl)
  go_wp2
  exact HP.out _ rfl

end Go.Proofs.Ytncganfjbalkgaa
