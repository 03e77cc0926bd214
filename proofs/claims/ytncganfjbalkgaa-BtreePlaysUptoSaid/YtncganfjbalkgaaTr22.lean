/-
  The nodes below a level's: a contract over the translation.
  Conditions: the level lies in memory.
-/
import Derived.Test.YtncganfjbalkgaaTr21
import Derived.Test.YtncganfjbalkgaaSh1
namespace Go.Proofs.Ytncganfjbalkgaa
open Go.RowKit Go.Joins Go.ChangeShapes Go.WideShapes
set_option linter.unusedVariables false

theorem infoN : (Try.prog.info? 66).map (fun i => (i.zero, i.size, i.bytes)) = some (some (.pointer none), 1, 8) := by kernel_rfl
def ncells (gs : List Nat) : List Value := gs.map fun g => .pointer (some ⟨g, 0, none⟩)
theorem ncells_length (l : List Nat) : (ncells l).length = l.length := by simp [ncells]
theorem ncells_app (l r : List Nat) : ncells (l ++ r) = ncells l ++ ncells r := List.map_append
def OwN (w : World) (base : Nat) (v : Value) (gs : List Nat) : Prop := w.ownsRow base 66 1 v gs.length (ncells gs)
theorem OwN.step {w w1 : World} {base : Nat} {v : Value} {gs : List Nat} {F : Bl} (h : OwN w base v gs) (hf : Frm F w w1) (hd : ∀ k, v.ownBlock = some k → ¬ F k) : OwN w1 base v gs := hf.ownsRow h hd
theorem OwN.below {w w1 : World} {base : Nat} {v : Value} {gs : List Nat} (h : OwN w base v gs) (hb : Below w.heap.size w w1) : OwN w1 base v gs := h.step (Frm.of_below (F := fun _ => False) hb) (fun _ _ h => h)
theorem OwN.form {w : World} {base : Nat} {v : Value} {gs : List Nat} (h : OwN w base v gs) : ∃ a cap, v = .slice a gs.length cap := by
  rcases h.2 with ⟨rfl, e⟩ | ⟨g', cap, cur, rfl, _⟩
  · exact ⟨none, 0, by rw [e]⟩
  · exact ⟨_, _, rfl⟩
theorem OwN.at {w : World} {base : Nat} {v : Value} {gs : List Nat} (h : OwN w base v gs) {i g : Nat} (hi : gs[i]? = some g) : ∃ gb cap, v = .slice (some ⟨gb, 0, none⟩) gs.length cap ∧ gb < w.heap.size ∧ w.cell? ⟨gb, i, none⟩ = some (.pointer (some ⟨g, 0, none⟩)) := by
  have hl := (List.getElem?_eq_some_iff.1 hi).1
  rcases h.2 with ⟨rfl, e⟩ | ⟨g', cap, cur, rfl, hb, hg, hn, hc, hs, ht⟩
  · omega
  · refine ⟨g', cap, rfl, (Array.getElem?_eq_some_iff.1 hg).1, ?_⟩
    have hj : (ncells gs)[i]? = some (.pointer (some ⟨g, 0, none⟩)) := by unfold ncells; rw [List.getElem?_map, hi]; rfl
    rw [cell_of_block hg i]
    rw [← ht, List.getElem?_take] at hj
    split at hj
    · rw [← Array.getElem?_toList]; exact hj
    · cases hj
theorem wp_pushN {ops : Array Oper} {rest : List Oper} {o : Oper} {a : Act} {w : World} {Q : Exit → Act → World → Prop} (hgd : o.guard = none) (s x : Operand)
    (ho : o.op = .call { callee := .builtin .append, args := #[s, x], argTypes := #[83, 83] })
    (base : Nat) (v : Value) (l : List Nat) (hs : a.eval s = v) (hown : OwN w base v l) (ad : Addr) (c : Nat) (r : Nat) (hx : a.eval x = .slice (some ad) 1 c)
    (hnews : ∀ j u, (ncells [r])[j]? = some u → w.cell? (ad.add j) = some u) (hsz : l.length + 1 ≤ 4294967297) (hbase : base ≤ w.heap.size)
    (h : ∀ v' w', OwN w' base v' (l ++ [r]) → w.grownBy w' v.ownBlock → wpList Try.prog ops Q rest (a.put o.dst v') w') : wpList Try.prog ops Q (o :: rest) a w := by
  obtain ⟨i0, hi, hz0, hz1, hz2⟩ := info_parts infoN
  refine wpList_append_own w hgd s x _ ho base 66 i0 _ 1 8 Try.underlying83 hi hz0 hz1 hz2 rfl (by decide) v l.length (ncells l) hs hown ad 1 c (ncells [r]) hx rfl hnews (by
    intro u hu
    simp only [ncells, List.map_cons, List.map_nil, List.mem_singleton] at hu
    subst hu
    rfl) (by unfold maxLen; omega) (by omega) hbase ?_
  intro v' w' h1 h2 h3
  refine h v' w' ?_ h2
  unfold OwN
  rw [ncells_app, List.length_append, List.length_singleton]
  exact h1
theorem newsN (w : World) (g : Nat) : ∀ j u, (ncells [g])[j]? = some u → (w.alloc (.cells #[.pointer (some ⟨g, 0, none⟩)] 66)).cell? ((⟨w.heap.size, 0, none⟩ : Addr).add j) = some u :=
  World.news_of_block (cs := #[.pointer (some ⟨g, 0, none⟩)]) (heap_alloc_new w _)
/-- the children of some parts -/
def kof (ps : List Pv) : List Nat := ps.filterMap (·.2.2)
theorem kof_take {ps : List Pv} {j : Nat} {p : Pv} (h : ps[j]? = some p) : kof (ps.take (j + 1)) = kof (ps.take j) ++ p.2.2.toList := by
  unfold kof
  rw [List.take_add_one, h]
  cases hp : p.2.2 <;> simp [hp]
theorem kof_le (ps : List Pv) : (kof ps).length ≤ ps.length := List.length_filterMap_le _ _
/-- the state of the loop -/
structure EnN (W w : World) (v : Value) (gs : List Nat) : Prop where
  own : OwN w W.heap.size v gs
  bel : Below W.heap.size W w
theorem EnN.step {W w w1 : World} {v : Value} {gs : List Nat} (h : EnN W w v gs) (hb : Below w.heap.size w w1) : EnN W w1 v gs := ⟨h.own.below hb, stepB h.bel hb⟩
theorem EnN.push {W w w1 : World} {v v' : Value} {gs gs' : List Nat} (h : EnN W w v gs) (ho : OwN w1 W.heap.size v' gs') (hg : w.grownBy w1 v.ownBlock) : EnN W w1 v' gs' :=
  ⟨ho, h.bel.grown hg h.bel.size (fun k hk => (h.own.lt k hk).1)⟩

theorem EnN.cast {W w : World} {v : Value} {gs gs' : List Nat} (h : EnN W w v gs) (e : gs = gs') : EnN W w v gs' := e ▸ h

set_option maxHeartbeats 4000000 in
set_option maxRecDepth 100000 in
theorem below_any (B b0 : Nat) (w : World) (v : Value) (LN : List (Nat × List Pv)) (hv : OwN w b0 v (LN.map (·.1))) (hnd : ∀ x ∈ LN, x.2.length ≤ 8 ∧ ∃ v, NdAt B w x.1 v x.2) (hsz : LN.length ≤ 268435456) :
    Calls Try.prog 38 #[v] w fun e w' => ∃ v', e = .returned v' ∧ OwN w' w.heap.size v' (LN.flatMap fun x => kof x.2) ∧ Below w.heap.size w w' := by
  generalize hP : (fun (e : Ending) (w' : World) => ∃ v', e = .returned v' ∧ OwN w' w.heap.size v' (LN.flatMap fun x => kof x.2) ∧ Below w.heap.size w w') = P
  have HP := Lib.hid hP
  have HV := Lib.hid (show ∀ wx, Below w.heap.size w wx → ∀ (i : Nat) (x : Nat × List Pv), LN[i]? = some x → ∃ gb cap, v = .slice (some ⟨gb, 0, none⟩) LN.length cap ∧ wx.cell? ⟨gb, i, none⟩ = some (.pointer (some ⟨x.1, 0, none⟩)) by
    intro wx hb i x hx
    obtain ⟨gb, cap, e, -, c⟩ := (hv.below hb).at (i := i) (g := x.1) (by rw [List.getElem?_map, hx]; rfl)
    rw [List.length_map] at e
    exact ⟨gb, cap, e, c⟩)
  have HN := Lib.hid (show ∀ x ∈ LN, x.2.length ≤ 8 ∧ ∃ (a : Option Addr) (cap : Nat), ∀ wy, Below w.heap.size w wy → wy.cell? ⟨x.1, 0, none⟩ = some (.slice a x.2.length cap) ∧ ∀ (j : Nat) (p : Pv), x.2[j]? = some p → ∃ gb, a = some ⟨gb, 0, none⟩ ∧ gb < wy.heap.size ∧ wy.cell? ⟨gb, j * 3, none⟩ = some (.string p.1) ∧ wy.cell? ⟨gb, j * 3 + 1, none⟩ = some (.int .i64 p.2.1) ∧ wy.cell? ⟨gb, j * 3 + 2, none⟩ = some (kp p.2.2) by
    intro x hx
    obtain ⟨h8, v', hd⟩ := hnd x hx
    obtain ⟨a, cap, rfl, -⟩ := hd.form
    refine ⟨h8, a, cap, fun wy hb => ⟨(hd.below hb).cell.1, fun j p hp => ?_⟩⟩
    have hdy := hd.below hb
    obtain ⟨gb, cap', e, -, -, d0, d1, d2, -⟩ := hdy.own.at hp
    injection e with e
    subst e
    exact ⟨gb, rfl, (hdy.own.lt gb rfl).2, d0, d1, d2⟩)
  obtain ⟨a, cap, rfl⟩ := hv.form
  rw [List.length_map] at *
  obtain ⟨n, en⟩ : ∃ n, LN.length = n := ⟨_, rfl⟩
  have EN := Lib.hid en
  rw [en] at HV hsz ⊢
  have HE0 := Lib.hid (show EnN w w (.slice none 0 0) [] from ⟨World.ownsRow_nil w _ _ 1, Below.refl _ _⟩)
  have HLE := Lib.hid (show ∀ i, ((LN.take i).flatMap fun x => kof x.2).length ≤ 8 * n by
    intro i
    have : ∀ (l : List (Nat × List Pv)), (∀ x ∈ l, x.2.length ≤ 8) → (l.flatMap fun x => kof x.2).length ≤ 8 * l.length := by
      intro l
      induction l with
      | nil => intro _; simp
      | cons x r ih =>
        intro h
        have h1 := ih (fun y hy => h y (List.mem_cons_of_mem _ hy))
        have h2 := h x (List.mem_cons_self ..)
        have h3 := kof_le x.2
        simp only [List.flatMap_cons, List.length_append, List.length_cons]
        omega
    have h1 := this (LN.take i) (fun x hx => (hnd x (List.mem_of_mem_take hx)).1)
    have h2 : (LN.take i).length ≤ n := by rw [List.length_take]; omega
    omega)
  clear hP hv hnd en
  go_enter Try.func38, Try.ntmps38
  go_wp2
  go_loopw [3, 10] (fun v i wr => ∃ j : Nat, j ≤ n ∧ i = .int .i64 j ∧ Hid (EnN w wr v ((LN.take j).flatMap fun x => kof x.2))) (fun _ i _ => n - (intOf i).toNat)
  case atStart => exact ⟨0, Nat.zero_le _, rfl, HE0.out⟩
  case round =>
    obtain ⟨j, hj, rfl, HE⟩ := hrel
    by_cases q : j < n
    · have c1 : (j : Int) < (n : Int) := by omega
      have hx : LN[j]? = some (LN[j]'(by rw [EN.out]; exact q)) := List.getElem?_eq_getElem _
      generalize LN[j]'(by rw [EN.out]; exact q) = x at *
      obtain ⟨gb, cap', e, d0⟩ := HV.out wr HE.out.bel j x hx
      injection e with e e2 e3
      subst e e3
      clear e2
      obtain ⟨h8, a', cp', hpt⟩ := HN.out x (List.mem_of_getElem? hx)
      have d1 := (hpt wr HE.out.bel).1
      obtain ⟨g, ps⟩ := x
      dsimp only at d0 d1 h8 hpt
      obtain ⟨m, em⟩ : ∃ m, ps.length = m := ⟨_, rfl⟩
      rw [em] at d1 h8
      have EM := Lib.hid em
      have HPT := Lib.hid hpt
      have HX := Lib.hid hx
      have hw4 : j * 1 = j := Nat.mul_one j
      clear hx hpt em
      go_wp2
      go_loopw [3, 19] (fun v i wr' => ∃ k : Nat, k ≤ m ∧ i = .int .i64 k ∧ Hid (EnN w wr' v (((LN.take j).flatMap fun x => kof x.2) ++ kof (ps.take k)))) (fun _ i _ => m - (intOf i).toNat)
      case atStart => exact ⟨0, Nat.zero_le _, rfl, HE.out.cast (by simp [kof])⟩
      case round =>
        obtain ⟨k, hk, rfl, HK⟩ := hrel
        by_cases q2 : k < m
        · have c2 : (k : Int) < (m : Int) := by omega
          have hp : ps[k]? = some (ps[k]'(by rw [EM.out]; exact q2)) := List.getElem?_eq_getElem _
          generalize ps[k]'(by rw [EM.out]; exact q2) = p at *
          obtain ⟨gp, e, lgp, z0, z1, z2⟩ := (HPT.out wr HK.out.bel).2 k p hp
          subst e
          have HTK := Lib.hid (kof_take hp)
          obtain ⟨pa, pb, pc⟩ := p
          dsimp only at z0 z1 z2 HTK
          have HKL := Lib.hid (show (((LN.take j).flatMap fun x => kof x.2) ++ kof (ps.take k)).length + 1 ≤ 4294967297 by
            have h1 := HLE.out j
            have h2 := kof_le (ps.take k)
            rw [List.length_take] at h2
            rw [List.length_append]
            omega)
          clear hp
          cases pc with
          | none =>
            simp only [kp, Option.map_none] at z2
            go_wp2
            go_roundw
            case rel => exact ⟨k + 1, by omega, by go_num, (HK.out.step ((Below.refl _ _).alloc (Nat.le_refl _) _)).cast (by rw [HTK.out]; simp)⟩
            case measure => simp [intOf]; omega
          | some y =>
            simp only [kp, Option.map_some] at z2
            obtain ⟨w5, hw5⟩ : ∃ w5, wr.alloc (.cells #[.string pa, .int .i64 pb, .pointer (some ⟨y, 0, none⟩)] 77) = w5 := ⟨_, rfl⟩
            have HE5 := Lib.hid (HK.out.step (show Below wr.heap.size wr w5 by rw [← hw5]; exact (Below.refl _ _).alloc (Nat.le_refl _) _))
            have HB5 := Lib.hid (show Below wr.heap.size wr w5 by rw [← hw5]; exact (Below.refl _ _).alloc (Nat.le_refl _) _)
            have HS5 := Lib.hid (show w5.heap.size = wr.heap.size + 1 by rw [← hw5]; simp)
            have HW5 := Lib.hid hw5
            clear hw5
            go_wp2_with (first | (at_builtin; rw [HW5.out]; refine wp_pushN rfl _ _ rfl w.heap.size _ _ rfl ((HE5.out.step ((Below.refl _ _).alloc (Nat.le_refl _) _)).own) ⟨wr.heap.size + 1, 0, none⟩ 1 y rfl (by rw [← HS5.out]; exact newsN w5 y) HKL.out ((HE5.out.step ((Below.refl _ _).alloc (Nat.le_refl _) _)).bel.size) ?_; intro v6 w6 hown6 hgrow6; have HE6 := Lib.hid ((HE5.out.step ((Below.refl _ _).alloc (Nat.le_refl _) _)).push hown6 hgrow6); clear hown6 hgrow6))
            go_roundw
            case rel => exact ⟨k + 1, by omega, by go_num, by rw [HTK.out, ← List.append_assoc]; exact HE6.out⟩
            case measure => simp [intOf]; omega
        · obtain rfl : k = m := by omega
          have HNX := Lib.hid (show EnN w wr u3 ((LN.take (j + 1)).flatMap fun x => kof x.2) by
            have h1 := HK.out
            rw [show ps.take k = ps from List.take_of_length_le (by rw [EM.out]; exact Nat.le_refl _)] at h1
            exact h1.cast (by rw [List.take_add_one, HX.out]; simp))
          go_wp2
          go_roundw
          case rel => exact ⟨j + 1, by omega, by go_num, HNX.out⟩
          case measure => simp [intOf]; omega
    · obtain rfl : j = n := by omega
      have hfin : P (.returned u3) wr := by
        rw [← HP.out]
        refine ⟨u3, rfl, ?_, HE.out.bel⟩
        have := HE.out.own
        rw [List.take_of_length_le (by rw [EN.out]; exact Nat.le_refl _)] at this
        exact this
      have HF := Lib.hid hfin
      clear hfin
      go_wp2
      exact HF.out

end Go.Proofs.Ytncganfjbalkgaa
