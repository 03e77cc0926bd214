/-
  What the laws of waiting ask: the edges that came in, copies of lists, lists compared.
  Conditions: none.
-/
import Derived.Test.YtlhipnklljjahaaWt21
import Derived.Deep.Slices
import Derived.Deep.Fields
import Derived.Deep.Strs
import Derived.ChangeSame
import Derived.JoinedCond
namespace Go.Proofs.Ytlhipnklljjahaa
open Go.RowKit Go.Joins Go.ChangeShapes Go.WideShapes
set_option linter.unusedVariables false
set_option linter.unnecessarySimpa false
set_option linter.unusedSimpArgs false

theorem up_one {H : Type} (d : DataW H) : 1 ≤ Rows.uptoBulk d := by
  cases d with
  | lit l => cases l <;> simp [Rows.uptoBulk]
  | _ => simp [Rows.uptoBulk]
theorem up_mem {H : Type} {d : DataW H} : ∀ {l : List (DataW H)}, d ∈ l → Rows.uptoBulk d ≤ Rows.uptoBulkAll l
  | [], h => by cases h
  | x :: r, h => by
    unfold Rows.uptoBulkAll
    rcases List.mem_cons.1 h with rfl | h
    · omega
    · have := up_mem h; omega
theorem up_len {H : Type} : ∀ (l : List (DataW H)), l.length ≤ Rows.uptoBulkAll l
  | [] => by simp
  | x :: r => by
    unfold Rows.uptoBulkAll
    have := up_one x
    have := up_len r
    rw [List.length_cons]
    omega
theorem up_all {H : Type} {l : List (DataW H)} (hk : Rows.uptoSmall H l = true) : Rows.uptoBulkAll l ≤ 1048576 := of_decide_eq_true hk
theorem up_arg {H : Type} {l : List (DataW H)} (hk : Rows.uptoSmall H l = true) {d : DataW H} (h : d ∈ l) : Rows.uptoBulk d ≤ 1048576 := Nat.le_trans (up_mem h) (up_all hk)
theorem cells_edge : Try.prog.cellsOf 27 = 2 := by kernel_rfl
theorem cells_intw : Try.prog.cellsOf 3 = 1 := by kernel_rfl
theorem open_intw {W : World} {r : Reach} {b0 : Nat} {v : Value} (o : Value.okWide Try.prog W r b0 3 v) : ∃ k : Int, v = .int .i64 k := okWide_int Try.underlying3 o

/-- the edges that came in -/
def EgArg (W : World) (a : Option Addr) (b off cap : Nat) (E : List Eg) : Prop :=
  E.length ≤ 1048576 ∧ (E.length = 0 ∨ a = some ⟨b, off, none⟩) ∧ IsEg W b off E ∧ ((a = none ∧ E.length = 0 ∧ cap = 0) ∨ ∃ ad, a = some ad ∧ (0 < E.length → ad = ⟨b, off, none⟩))
theorem EgArg.below {W W' : World} {a : Option Addr} {b off cap : Nat} {E : List Eg} (h : EgArg W a b off cap E) (hb : Below W.heap.size W W') : EgArg W' a b off cap E := ⟨h.1, h.2.1, h.2.2.1.below hb, h.2.2.2⟩
set_option maxRecDepth 100000 in
theorem open_edges {H : Type} {enc : TypeId × Value → H} {W : World} {base b0 : Nat} {r : Reach} {v : Value} {d : DataW H} {p : List MemPlace}
    (o : Value.okWide Try.prog W r b0 22 v) (h : DataW.Trod enc Try.prog W base (fun _ => true) true 22 v d p) (hb : Rows.uptoBulk d ≤ 1048576) :
    ∃ (a : Option Addr) (cap b off : Nat) (E : List Eg), v = .slice a E.length cap ∧ EgArg W a b off cap E := by
  obtain ⟨a, len, cap, rfl⟩ := okWide_slice Try.underlying22 o
  obtain ⟨fuel, hf⟩ := h
  have hnil : ∀ b off, IsEg W b off [] := fun b off => ⟨fun h => absurd h (by simp), fun i x y hx => by simp at hx, fun i x y hx => by simp at hx⟩
  rcases Go.Deep.open_slice Try.underlying22 hf with ⟨hcs, hx⟩ | ⟨a', len', cap', m, n, D, Pl, hcs, hbb, hl, hm, hmm, hx, hi⟩
  · simp [Value.cells] at hcs
    obtain ⟨rfl, rfl, rfl⟩ := hcs
    exact ⟨none, 0, 0, 0, [], rfl, by decide, .inl rfl, hnil 0 0, .inl ⟨rfl, rfl, rfl⟩⟩
  · simp [Value.cells] at hcs
    obtain ⟨rfl, rfl, rfl⟩ := hcs
    simp only [if_true] at hmm
    subst hmm
    simp only [Prod.mk.injEq] at hx
    obtain ⟨rfl, -⟩ := hx
    rw [cells_edge] at hi
    have hbs : Rows.uptoBulkAll ((List.range len).map D) + Rows.uptoBulkAll ((List.range (m - len)).map fun j => D (len + j)) + 1 ≤ 1048576 := by
      unfold Rows.uptoBulk at hb
      exact hb
    have l1 := up_len ((List.range len).map D)
    rw [List.length_map, List.length_range] at l1
    have hk : ∀ i, ∃ x : Eg, i < len → W.cell? (a'.add (i * 2)) = some (.int .i64 x.1) ∧ W.cell? ((a'.add (i * 2)).add 1) = some (.int .i64 x.2) := by
      intro i
      by_cases hil : i < len
      · obtain ⟨cs', hc, ht⟩ := hi i (by omega)
        obtain ⟨y0, y1, n', hy, hlen, g0, g1⟩ := Go.ChangeShapes.trod_struct2 Try.underlying27 ht
        rw [cells_edge] at hlen
        obtain ⟨_, hcl, hat⟩ := World.cells?_some hc
        match cs', hlen with
        | [q0, q1], _ =>
          obtain ⟨k, e0, -, -⟩ := DataW.trod_int Try.underlying3 g0
          obtain ⟨z, e1, -, -⟩ := DataW.trod_int Try.underlying3 g1
          simp only [cells_intw] at e0 e1
          simp at e0 e1
          subst e0 e1
          refine ⟨(k, z), fun _ => ⟨?_, hat 1 (by decide)⟩⟩
          have := hat 0 (by decide)
          simpa [Addr.add] using this
      · exact ⟨(0, 0), fun h => absurd h hil⟩
    obtain ⟨f, hf'⟩ := Classical.axiomOfChoice hk
    by_cases h0 : len = 0
    · subst h0
      exact ⟨_, _, 0, 0, [], rfl, by simp, .inl rfl, hnil 0 0, .inr ⟨_, rfl, fun h => by simp at h⟩⟩
    · have hsp : a'.spot = none := by
        have c := (hf' 0 (by omega)).1
        simpa [Addr.add] using World.cell?_spot c
      obtain ⟨b, off, spot⟩ := a'
      simp only at hsp
      subst hsp
      have ea : ∀ j, (⟨b, off, none⟩ : Addr).add j = ⟨b, off + j, none⟩ := by intro j; unfold Addr.add; split <;> simp_all
      have hlt : b < W.heap.size := by
        have c := (hf' 0 (by omega)).1
        rw [ea] at c
        exact World.block_lt_of_cell? W _ c
      obtain ⟨E, hE⟩ : ∃ E, (List.range len).map f = E := ⟨_, rfl⟩
      have hEl : E.length = len := by rw [← hE]; simp
      have hat : ∀ (i : Nat) (x y : Int), E[i]? = some (x, y) → i < len ∧ f i = (x, y) := by
        intro i x y hx
        have hil : i < len := by rw [← hEl]; exact (List.getElem?_eq_some_iff.1 hx).1
        rw [← hE, List.getElem?_map, List.getElem?_range hil] at hx
        exact ⟨hil, by simpa using hx⟩
      refine ⟨some ⟨b, off, none⟩, _, b, off, E, by rw [hEl], by omega, .inr rfl, ⟨fun _ => hlt, fun i x y hx => ?_, fun i x y hx => ?_⟩, .inr ⟨_, rfl, fun _ => rfl⟩⟩
      · obtain ⟨hil, e⟩ := hat i x y hx
        have := (hf' i hil).1
        rw [ea, e] at this
        exact this
      · obtain ⟨hil, e⟩ := hat i x y hx
        have := (hf' i hil).2
        rw [Go.Deep.add_add, ea, e, ← Nat.add_assoc] at this
        exact this

/-- append of the edges that came in -/
theorem wp_copyE {ops : Array Oper} {rest : List Oper} {o : Oper} {a : Act} {w : World} {Q : Exit → Act → World → Prop} (hgd : o.guard = none) (s x : Operand)
    (ho : o.op = .call { callee := .builtin .append, args := #[s, x], argTypes := #[22, 22] })
    (base : Nat) (v : Value) (l : List Eg) (hs : a.eval s = v) (hown : OwEd w base v l) (A : Option Addr) (c b off : Nat) (r : List Eg) (hx : a.eval x = .slice A r.length c)
    (hr : EgArg w A b off c r) (hsz : l.length + r.length ≤ 4294967296) (hbase : base ≤ w.heap.size)
    (h : ∀ v' w', OwEd w' base v' (l ++ r) → w.grownBy w' v.ownBlock → wpList Try.prog ops Q rest (a.put o.dst v') w') : wpList Try.prog ops Q (o :: rest) a w := by
  obtain ⟨i0, hi, hz0, hz1, hz2⟩ := info_parts infoEd
  obtain ⟨h1, h2, h3, hN⟩ := hr
  rcases hN with ⟨rfl, h0, rfl⟩ | ⟨ad, rfl, had⟩
  · have hr0 : r = [] := List.length_eq_zero_iff.1 h0
    subst hr0
    refine wpList_append_own_none hgd s x _ ho base 27 i0 2 Try.underlying22 hi v l.length (edcells l) hs hown.1 hx (h v w ?_ ⟨rfl, rfl, rfl, Nat.le_refl _, fun _ _ _ => rfl⟩)
    rw [List.append_nil]
    exact hown
  · refine wpList_append_own w hgd s x _ ho base 27 i0 _ 2 16 Try.underlying22 hi hz0 hz1 hz2 rfl (by decide) v l.length (edcells l) hs hown.1 ad r.length c (edcells r) hx (edcells_length r) (fun j u hj => ?_) (edcells_one r) (by unfold maxLen; omega) (by omega) hbase ?_
    · have hj2 : j < (edcells r).length := (List.getElem?_eq_some_iff.1 hj).1
      rw [edcells_length] at hj2
      rw [had (by omega)]
      have ea : (⟨b, off, none⟩ : Addr).add j = ⟨b, off + j, none⟩ := by unfold Addr.add; split <;> simp_all
      rw [ea]
      exact h3.news j u hj
    · intro v' w' g1 g2 g3
      refine h v' w' ⟨?_, fun e => hown.2 (g3.1 e).1⟩ g2
      rw [edcells_app, List.length_append]
      exact g1
theorem edges_made (w : World) : OwEd (w.alloc (.cells #[] 27)) w.heap.size (.slice (some ⟨w.heap.size, 0, none⟩) 0 0) [] := ⟨World.ownsRow_made w #[] 0 (Nat.le_refl _) (by decide) rfl, by simp⟩
theorem OwEd.arg {w : World} {B : Nat} {v : Value} {l : List Eg} (h : OwEd w B v l) (hm : l.length ≤ 1048576) : ∃ g cap, v = .slice (some ⟨g, 0, none⟩) l.length cap ∧ B ≤ g ∧ g < w.heap.size ∧ EgArg w (some ⟨g, 0, none⟩) g 0 cap l := by
  obtain ⟨g, cap, e, hb, -, -, hw⟩ := h.form
  exact ⟨g, cap, e, hb, hw.lt, hm, .inr rfl, hw.eg, .inr ⟨_, rfl, fun _ => rfl⟩⟩
/-- append of a list of whole numbers onto an empty one -/
theorem wp_copyI {ops : Array Oper} {rest : List Oper} {o : Oper} {a : Act} {w : World} {Q : Exit → Act → World → Prop} (hgd : o.guard = none) (s x : Operand)
    (ho : o.op = .call { callee := .builtin .append, args := #[s, x], argTypes := #[24, 24] })
    (base : Nat) (hs : a.eval s = .slice (some ⟨base, 0, none⟩) 0 0) (hown : w.ownsRow base 3 1 (.slice (some ⟨base, 0, none⟩) 0 0) 0 []) (v : Value) (r : List Int) (B : Nat) (hx : a.eval x = v) (hr : QI w B v r) (hsz : r.length ≤ 4294967296) (hbase : base ≤ w.heap.size)
    (h : ∀ v' w', QI w' base v' r → w.grownBy w' (some base) → wpList Try.prog ops Q rest (a.put o.dst v') w') : wpList Try.prog ops Q (o :: rest) a w := by
  obtain ⟨i0, hi, hz0, hz1, hz2⟩ := info_parts infoI
  obtain ⟨A, cap, rfl, h1, h2, h3⟩ := QR.form hr
  rw [icells_length] at h1 hx
  rcases h3 with ⟨rfl, h4, rfl⟩ | ⟨g, o', rfl, -, h5, -, h6⟩
  · have hr0 : r = [] := by cases r with | nil => rfl | cons x l => simp [icells] at h4
    subst hr0
    refine wpList_append_own_none hgd s x _ ho base 3 i0 1 Try.underlying24 hi _ 0 [] hs hown hx (h _ w (QR.of_own hown) ⟨rfl, rfl, rfl, Nat.le_refl _, fun _ _ _ => rfl⟩)
  · refine wpList_append_own w hgd s x _ ho base 3 i0 _ 1 8 Try.underlying24 hi hz0 hz1 hz2 rfl (by decide) _ 0 [] hs hown ⟨g, o', none⟩ r.length cap (icells r) hx (by rw [icells_length, Nat.mul_one]) (fun j u hj => ?_) ?_ (by unfold maxLen; omega) (by omega) hbase ?_
    · have ea : (⟨g, o', none⟩ : Addr).add j = ⟨g, o' + j, none⟩ := by unfold Addr.add; split <;> simp_all
      rw [ea]
      exact h6 j u hj
    · intro u hu
      obtain ⟨n, -, rfl⟩ := List.mem_map.1 hu
      rfl
    · intro v' w' g1 g2 g3
      refine h v' w' ?_ g2
      have := QR.of_own g1
      rw [List.nil_append] at this
      exact this

set_option maxHeartbeats 1000000 in
theorem sameints_any (a a' : Option Addr) (b off cap b' off' cap' : Nat) (l r : List Int) (hm : l.length ≤ maxLen) (hn : r.length ≤ maxLen) (w : World)
    (ha : l.length = 0 ∨ a = some ⟨b, off, none⟩) (ha' : r.length = 0 ∨ a' = some ⟨b', off', none⟩) (hA : IsN w b off l) (hB : IsN w b' off' r) :
    Calls Try.prog 10 #[.slice a l.length cap, .slice a' r.length cap'] w fun e w' => e = .returned (.bool (decide (l = r))) ∧ Below w.heap.size w w' := by
  obtain ⟨T, hT⟩ : ∃ T, decide (l = r) = T := ⟨_, rfl⟩
  rw [hT]
  have HT := Lib.hid hT
  have HA := Lib.hid ha
  have HA' := Lib.hid ha'
  have HB := Lib.hid (fun wx (h : Below w.heap.size w wx) => And.intro (hA.below h) (hB.below h))
  have hm9 : (l.length : Int) ≤ 9223372036854775807 := by unfold maxLen at hm; omega
  have hn9 : (r.length : Int) ≤ 9223372036854775807 := by unfold maxLen at hn; omega
  clear hT ha ha' hA hB hm hn
  by_cases hne : l.length = r.length
  · obtain ⟨m, em⟩ : ∃ m, l.length = m := ⟨_, rfl⟩
    have EM := Lib.hid em
    have EN := Lib.hid (hne.symm.trans em)
    rw [← hne, em]
    rw [em] at hm9
    clear hne em hn9
    go_enter Try.func10, Try.ntmps10
    go_wp2
    go_loopw [5] (fun i wr => ∃ k : Nat, k ≤ m ∧ i = .int .i64 k ∧ Hid (∀ j, j < k → l[j]? = r[j]?) ∧ Below w.heap.size w wr) (fun i _ => m - (intOf i).toNat)
    case atStart => exact ⟨0, Nat.zero_le _, rfl, fun j hj => absurd hj (by omega), Below.refl _ _⟩
    case round =>
      obtain ⟨k, hk, rfl, HK, hb⟩ := hrel
      by_cases c : k < m
      · have c1 : (k : Int) < (m : Int) := by omega
        obtain rfl : a = some ⟨b, off, none⟩ := by rcases HA.out with h | h; (have := EM.out; omega); exact h
        obtain rfl : a' = some ⟨b', off', none⟩ := by rcases HA'.out with h | h; (have := EN.out; omega); exact h
        have hx : l[k]? = some (l[k]'(by rw [EM.out]; exact c)) := List.getElem?_eq_getElem _
        have hy : r[k]? = some (r[k]'(by rw [EN.out]; exact c)) := List.getElem?_eq_getElem _
        generalize l[k]'(by rw [EM.out]; exact c) = x at *
        generalize r[k]'(by rw [EN.out]; exact c) = y at *
        have a0 := (HB.out wr hb).1.c k x hx
        have b0 := (HB.out wr hb).2.c k y hy
        have HX := Lib.hid hx
        have HY := Lib.hid hy
        have HBL := Lib.hid hb
        clear hx hy
        by_cases q : x = y
        · subst q
          have HK2 : Hid (∀ j, j < k + 1 → l[j]? = r[j]?) := fun j hj => by
            by_cases e : j = k
            · rw [e, HX.out, HY.out]
            · exact HK.out j (by omega)
          have qq : (x != x) = false := by simp
          go_wp2
          go_quiet (fail)
          go_wp2
          go_roundw
          case rel => exact ⟨k + 1, by omega, by go_num, HK2, HBL.out.trans ⟨rfl, rfl, rfl, Nat.le_refl _, fun _ _ => rfl⟩⟩
          case measure => simp [intOf]; omega
        · have q1 : (x != y) = true := by simpa using q
          have hTf : T = false := by
            rw [← HT.out]
            refine decide_eq_false (fun e => q ?_)
            have h1 := HX.out
            rw [e, HY.out] at h1
            exact (Option.some.inj h1).symm
          subst hTf
          go_wp2
          go_quiet (fail)
          go_wp2
          go_ret
          exact ⟨rfl, HBL.out.trans ⟨rfl, rfl, rfl, Nat.le_refl _, fun _ _ => rfl⟩⟩
      · obtain rfl : k = m := by omega
        have hTt : T = true := by
          rw [← HT.out]
          refine decide_eq_true (List.ext_getElem? fun j => ?_)
          by_cases e : j < k
          · exact HK.out j e
          · rw [List.getElem?_eq_none (by rw [EM.out]; omega), List.getElem?_eq_none (by rw [EN.out]; omega)]
        subst hTt
        have HBL := Lib.hid hb
        go_wp2
        go_ret
        exact ⟨rfl, HBL.out⟩
  · have hTf : T = false := by
      rw [← HT.out]
      exact decide_eq_false (fun e => hne (by rw [e]))
    subst hTf
    have h1 : ((l.length : Int) != (r.length : Int)) = true := by simp; omega
    generalize l.length = m at *
    generalize r.length = n at *
    go_enter Try.func10, Try.ntmps10
    go_wp2
    go_ret
    exact ⟨rfl, Below.refl _ _⟩


end Go.Proofs.Ytlhipnklljjahaa
