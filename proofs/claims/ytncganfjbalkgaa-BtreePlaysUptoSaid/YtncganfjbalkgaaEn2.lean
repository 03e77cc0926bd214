/-
  The document's list of entries: Put and Drop (haspref07): contracts over the translation.
  Conditions: the list lies in memory.
-/
import Derived.Test.YtncganfjbalkgaaEn1
import Derived.Test.YtncganfjbalkgaaHp2
namespace Go.Proofs.Ytncganfjbalkgaa
open Go.RowKit Go.Joins Go.ChangeShapes Go.WideShapes
set_option linter.unusedVariables false

theorem infoE : (Try.prog.info? 42).map (fun i => (i.zero, i.size, i.bytes)) = some (some (.agg #[.slice none 0 0, .int .i64 0]), 2, 32) := by kernel_rfl
theorem ty_eb : (42 : TypeId) ≠ 5 := by decide
/-- append onto a list of entries of the call's own -/
theorem wp_pushE {ops : Array Oper} {rest : List Oper} {o : Oper} {a : Act} {w : World} {Q : Exit → Act → World → Prop} (hgd : o.guard = none) (s x : Operand)
    (ho : o.op = .call { callee := .builtin .append, args := #[s, x], argTypes := #[26, 26] })
    (base : Nat) (v : Value) (l : List Ev) (hs : a.eval s = v) (hown : OwE w base v l) (ad : Addr) (c : Nat) (r : Ev) (hx : a.eval x = .slice (some ad) 1 c)
    (hnews : ∀ j u, (ecells [r])[j]? = some u → w.cell? (ad.add j) = some u) (h1 : r.1.oneCell' = true) (hsz : l.length + 1 ≤ 4294967297) (hbase : base ≤ w.heap.size)
    (h : ∀ v' w', OwE w' base v' (l ++ [r]) → w.grownBy w' v.ownBlock → wpList Try.prog ops Q rest (a.put o.dst v') w') : wpList Try.prog ops Q (o :: rest) a w := by
  obtain ⟨i0, hi, hz0, hz1, hz2⟩ := info_parts infoE
  refine wpList_append_own w hgd s x _ ho base 42 i0 _ 2 32 Try.underlying26 hi hz0 hz1 hz2 rfl (by decide) v l.length (ecells l) hs hown.1 ad 1 c (ecells [r]) hx (by rw [ecells_length]; rfl) hnews (by
    intro u hu
    simp only [ecells, List.append_nil, List.mem_cons, List.not_mem_nil, or_false] at hu
    rcases hu with rfl | rfl
    · exact h1
    · rfl) (by unfold maxLen; omega) (by omega) hbase ?_
  intro v' w' h1 h2 h3
  refine h v' w' ⟨?_, fun e => hown.2 (h3.1 e).1⟩ h2
  rw [ecells_app, List.length_append, List.length_singleton]
  exact h1
theorem newsE (w : World) (u : Value) (n : Int) : ∀ j x, (ecells [(u, n)])[j]? = some x → (w.alloc (.cells #[u, .int .i64 n] 42)).cell? ((⟨w.heap.size, 0, none⟩ : Addr).add j) = some x :=
  World.news_of_block (cs := #[u, .int .i64 n]) (heap_alloc_new w _)
theorem OwE.alloc {w : World} {base : Nat} {v : Value} {l : List Ev} (h : OwE w base v l) (o : Obj) : OwE (w.alloc o) base v l := ⟨h.1.alloc o, h.2⟩
theorem OwE.below {w w' : World} {base : Nat} {v : Value} {l : List Ev} (h : OwE w base v l) (hb : Below w.heap.size w w') : OwE w' base v l := ⟨rowBelow h.1 hb, h.2⟩
/-- the state of a loop that makes a list of entries -/
structure EnE (W w : World) (B : Nat) (v : Value) (l : List Ev) : Prop where
  own : OwE w B v l
  bel : Below B W w
  sz : B ≤ w.heap.size
theorem EnE.alloc {W w : World} {B : Nat} {v : Value} {l : List Ev} (h : EnE W w B v l) (o : Obj) : EnE W (w.alloc o) B v l := ⟨h.own.alloc o, h.bel.alloc h.sz o, by simp; exact Nat.le_succ_of_le h.sz⟩
theorem EnE.step {W w w' : World} {B : Nat} {v : Value} {l : List Ev} (h : EnE W w B v l) (hb : Below w.heap.size w w') : EnE W w' B v l := ⟨h.own.below hb, h.bel.trans (hb.mono h.sz), Nat.le_trans h.sz hb.size⟩
theorem EnE.push {W w w' : World} {B : Nat} {v v' : Value} {l l' : List Ev} (h : EnE W w B v l) (ho : OwE w' B v' l') (hg : w.grownBy w' v.ownBlock) : EnE W w' B v' l' :=
  ⟨ho, h.bel.grown hg h.sz (fun k hk => (h.own.1.lt k hk).1), Nat.le_trans h.sz hg.size⟩
theorem EnE.made (W w : World) (B : Nat) (hb : Below B W w) (hs : B ≤ w.heap.size) : EnE W (w.alloc (.cells #[] 42)) B (.slice (some ⟨w.heap.size, 0, none⟩) 0 0) [] :=
  ⟨⟨World.ownsRow_made w #[] 0 hs (by decide) rfl, by simp⟩, hb.alloc hs _, by simp; exact Nat.le_succ_of_le hs⟩
/-- a row of bytes stays when entries are put behind -/
theorem OwB.pushE {w w' : World} {B B' : Nat} {u v : Value} {k : List Nat} {l : List Ev} (hu : OwB w B' u k) (ho : OwE w B v l) (hg : w.grownBy w' v.ownBlock) : OwB w' B' u k := by
  refine ⟨hu.1.kept hg ?_, hu.2⟩
  by_cases c : u.ownBlock = none
  · exact .inl c
  · refine .inr (fun e => ?_)
    rcases hv : v.ownBlock with _ | j
    · rw [hv] at e; exact c e
    · exact own_own ho.1 hu.1 ty_eb hv (by rw [e, hv])
theorem OwB.keyAt {w : World} {base : Nat} {u : Value} {k : List Nat} {R : Bl} (h : OwB w base u k) (hl : ∀ x ∈ k, x < 256) (hr : ∀ g, u.ownBlock = some g → R g) : KeyAt w R u k := by
  obtain ⟨g, cap, rfl, h1, h2⟩ := h.isB hl
  exact ⟨_, g, 0, cap, rfl, .inr ⟨rfl, hr g rfl⟩, h1⟩

/-- the list with an entry more, if its key is not there -/
def ePut (l : List Ent) (k : List Nat) (id : Int) : List Ent := if (ePl l k).2 then l else l.take (ePl l k).1 ++ [(k, id)] ++ l.drop (ePl l k).1
/-- the list without the entry of a key -/
def eDel (l : List Ent) (k : List Nat) : List Ent := if (ePl l k).2 then l.take (ePl l k).1 ++ l.drop ((ePl l k).1 + 1) else l

theorem put_end {B : Nat} {w wf : World} {R : Bl} {v v' U : Value} {L : List Ev} {l : List Ent} {k : List Nat} {id : Int} {j : Nat} (hB : B ≤ w.heap.size) (h : MEx B wf R v L l) (hlt : ∀ x ∈ k, x < 256)
    (hen : EnE w wf w.heap.size v' (L.take j ++ [(U, id)] ++ L.drop j)) (hu : OwB wf w.heap.size U k) :
    MEx B wf (fun b => R b ∨ U.ownBlock = some b ∨ v'.ownBlock = some b) v' (L.take j ++ [(U, id)] ++ L.drop j) (l.take j ++ [(k, id)] ++ l.drop j) ∧ New w R (fun b => R b ∨ U.ownBlock = some b ∨ v'.ownBlock = some b) := by
  refine ⟨⟨⟨ownsRow_le hen.own.1 hB, hen.own.2⟩, ?_, fun b hb => .inr (.inr hb), ?_⟩, ?_⟩
  · exact ((h.ents.mono (fun b hb => .inl hb)).take j |>.app (EntsAt.one id (hu.keyAt hlt (fun b hb => .inr (.inl hb))))).app ((h.ents.mono (fun b hb => .inl hb)).drop j)
  · intro b hb
    rcases hb with hb | hb | hb
    · exact h.rb b hb
    · have := hu.lt b hb; exact ⟨by omega, this.2⟩
    · have := hen.own.1.lt b hb; exact ⟨by omega, this.2⟩
  · intro b hb
    rcases hb with hb | hb | hb
    · exact .inl hb
    · exact .inr (hu.lt b hb).1
    · exact .inr (hen.own.1.lt b hb).1
theorem take_drop_next {α : Type} {L : List α} {q j : Nat} {x : α} (h : L[q]? = some x) (hj : j ≤ q) : (L.take (q + 1)).drop j = (L.take q).drop j ++ [x] := by
  have hq : q < L.length := (List.getElem?_eq_some_iff.1 h).1
  rw [List.take_add_one, h]
  exact List.drop_append_of_le_length (by rw [List.length_take]; omega)

set_option maxRecDepth 100000 in
set_option maxHeartbeats 4000000 in
/-- haspref07.Put -/
theorem refput_any (B : Nat) (w : World) (hB : B ≤ w.heap.size) (R : Bl) (v : Value) (L : List Ev) (l : List Ent) (h : MEx B w R v L l) (hn : l.length ≤ 4294967296) (hk9 : ∀ e ∈ l, e.1.length ≤ maxLen)
    (a : Option Addr) (b off cap : Nat) (k : List Nat) (hm : k.length ≤ 17592186044416) (ha : k.length = 0 ∨ a = some ⟨b, off, none⟩) (hA : IsB w b off k) (id : Int) :
    Calls Try.prog 13 #[v, .slice a k.length cap, .int .i64 id] w fun e w' => ∃ v' R' L', e = .returned (.tuple #[v', .bool (!(ePl l k).2)]) ∧ Below w.heap.size w w' ∧ MEx B w' R' v' L' (ePut l k id) ∧ New w R R' := by
  have hpl := refplace_any B w R v L l h (by unfold maxLen; omega) hk9 a b off cap k (by unfold maxLen; omega) ha hA
  generalize hP : (fun (e : Ending) (w' : World) => ∃ v' R' L', e = .returned (.tuple #[v', .bool (!(ePl l k).2)]) ∧ Below w.heap.size w w' ∧ MEx B w' R' v' L' (ePut l k id) ∧ New w R R') = P
  have hpost : ∀ (v' : Value) (R' : Bl) (L' : List Ev) (w' : World), Below w.heap.size w w' → MEx B w' R' v' L' (ePut l k id) → New w R R' → P (.returned (.tuple #[v', .bool (!(ePl l k).2)])) w' := by
    intro v' R' L' w' h1 h2 h3; rw [← hP]; exact ⟨v', R', L', rfl, h1, h2, h3⟩
  have hle := ePl_le l k
  have hP1 : ePut l k id = if (ePl l k).2 then l else l.take (ePl l k).1 ++ [(k, id)] ++ l.drop (ePl l k).1 := rfl
  obtain ⟨T, hT⟩ : ∃ T, ePl l k = T := ⟨_, rfl⟩
  rw [hT] at hpl hpost hle hP1
  obtain ⟨at0, there⟩ := T
  dsimp only at hpl hpost hle hP1
  have HPL := Lib.hid hpl
  have H := Lib.hid (fun wx (hb : Below w.heap.size w wx) => h.below hb)
  have HCP := Lib.hid (fun wx (hb : Below w.heap.size w wx) => refcopy_any a b off cap k hm wx ha (hA.below hb))
  have HLT := Lib.hid hA.lt
  have HRB := Lib.hid (fun j (hj : R j) => (h.rb j hj))
  cases there
  case true =>
    rw [if_pos rfl] at hP1
    rw [hP1] at hpost
    have HP := Lib.hid hpost
    clear hpl hpost hP hT hP1 hle h hk9 ha hA
    go_enter Try.func13, Try.ntmps13
    go_wp2_with (first | (go_at_call 17; refine HPL.out.mono ?_; rintro e w1 ⟨rfl, b1⟩; have HB1 := Lib.hid b1; clear b1))
    exact HP.out _ R L _ HB1.out (H.out _ HB1.out) (New.refl _ _)
  case false =>
    rw [if_neg (by simp)] at hP1
    rw [hP1] at hpost
    have HP := Lib.hid hpost
    obtain ⟨g, capv, rfl, -⟩ := h.own.form
    obtain ⟨n, en⟩ : ∃ n, L.length = n := ⟨_, rfl⟩
    have EN := Lib.hid en
    have EL := Lib.hid (h.ents.len.symm.trans en)
    rw [h.ents.len.symm.trans en] at hn hle
    have hle1 := hle.1
    have HN := Lib.hid hn
    rw [en] at HPL H ⊢
    clear hpl hpost hP hT hP1 hle h hk9 ha hA en hn
    go_enter Try.func13, Try.ntmps13
    go_wp2_with (first | (go_at_call 17; refine HPL.out.mono ?_; rintro e w1 ⟨rfl, b1⟩; have HE0 := Lib.hid (EnE.made w w1 w.heap.size b1 b1.size); clear b1))
    go_loopw [10, 11] (fun v i wr => ∃ j : Nat, j ≤ at0 ∧ i = .int .i64 j ∧ EnE w wr w.heap.size v (L.take j)) (fun _ i _ => at0 - (intOf i).toNat)
    case atStart => exact ⟨0, Nat.zero_le _, rfl, by rw [List.take_zero]; exact HE0.out⟩
    case round =>
      obtain ⟨j, hj, rfl, hen⟩ := hrel
      have hn4 := HN.out
      by_cases c : j < at0
      · have c1 : (j : Int) < (at0 : Int) := by omega
        have c2 : (j : Int) < (n : Int) := by omega
        have hp : L[j]? = some (L[j]'(by rw [EN.out]; omega)) := List.getElem?_eq_getElem _
        generalize L[j]'(by rw [EN.out]; omega) = p at *
        obtain ⟨pu, pn⟩ := p
        have hh := H.out wr hen.bel
        obtain ⟨g', capv', e1, -, -, -, hc⟩ := hh.own.form
        injection e1 with e1 e2 e3
        injection e1 with e1
        injection e1 with e1
        subst e1
        obtain ⟨d0, d1⟩ := hc j _ hp
        dsimp only at d0 d1
        have HE2 := Lib.hid hen
        have HPN := Lib.hid (show pu.oneCell' = true by
          obtain ⟨x, hx⟩ : ∃ x, l[j]? = some x := ⟨l[j]'(by rw [EL.out]; omega), List.getElem?_eq_getElem _⟩
          exact (hh.ents.at' j _ x hp hx).1.one)
        have HX := Lib.hid hp
        have HL := Lib.hid (show (L.take j).length + 1 ≤ 4294967297 by rw [List.length_take]; have := HN.out; have := EN.out; omega)
        clear hen hp hh e2 e3 hc
        go_wp2_with (first | (at_builtin; refine wp_pushE rfl _ _ rfl w.heap.size _ _ rfl (HE2.out.own.alloc _) ⟨wr.heap.size, 0, none⟩ 1 (pu, pn) rfl (newsE wr pu pn) HPN.out HL.out (HE2.out.alloc _).sz ?_; intro v1 w2 hown1 hgrow1; have HE3 := Lib.hid ((HE2.out.alloc _).push hown1 hgrow1); clear hown1 hgrow1))
        go_roundw
        case rel => exact ⟨j + 1, by omega, by go_num, by rw [List.take_add_one, HX.out]; exact HE3.out⟩
        case measure => simp [intOf]; omega
      · obtain rfl : j = at0 := by omega
        have hcp := HCP.out wr hen.bel
        have HCP2 := Lib.hid hcp
        have HE2 := Lib.hid hen
        have HL := Lib.hid (show (L.take j).length + 1 ≤ 4294967297 by rw [List.length_take]; have := HN.out; have := EN.out; omega)
        clear hcp hen HCP HE0
        go_wp2_with (first | (go_at_call 11; refine HCP2.out.mono ?_; rintro e w2 ⟨u, rfl, ou, b2⟩; obtain ⟨gu, cu, rfl, -⟩ := ou.form; have HU := Lib.hid ou; have HE4 := Lib.hid (HE2.out.step b2); clear ou b2) | (at_builtin; refine wp_pushE rfl _ _ rfl w.heap.size _ _ rfl (HE4.out.own.alloc _) ⟨w2.heap.size, 0, none⟩ 1 (.slice (some ⟨gu, 0, none⟩) k.length cu, id) rfl (newsE w2 _ id) rfl HL.out (HE4.out.alloc _).sz ?_; intro v1 w3 hown1 hgrow1; have HE3 := Lib.hid ((HE4.out.alloc _).push hown1 hgrow1); have HU3 := Lib.hid ((HU.out.alloc _).pushE (HE4.out.own.alloc _) hgrow1); clear hown1 hgrow1))
        have HB3 := Lib.hid (show Below w.heap.size w w3 from HE3.out.bel)
        have HU5 := Lib.hid (show OwB w3 w.heap.size (.slice (some ⟨gu, 0, none⟩) k.length cu) k from HU3.out.le HE2.out.sz)
        clear HE2 HE4 HU HU3 HCP2 HL
        go_loopw [10, 12] (fun v i wr => ∃ q : Nat, j ≤ q ∧ q ≤ n ∧ i = .int .i64 q ∧ EnE w wr w.heap.size v (L.take j ++ [((.slice (some ⟨gu, 0, none⟩) k.length cu : Value), id)] ++ (L.take q).drop j) ∧ OwB wr w.heap.size (.slice (some ⟨gu, 0, none⟩) k.length cu) k) (fun _ i _ => n - (intOf i).toNat)
        case atStart => exact ⟨j, Nat.le_refl _, hle1, rfl, by rw [List.drop_take_self, List.append_nil]; exact HE3.out, HU5.out⟩
        case round =>
          obtain ⟨q, hjq, hq, rfl, hen, hou⟩ := hrel
          by_cases c3 : q < n
          · have c1 : (q : Int) < (n : Int) := by omega
            have hp : L[q]? = some (L[q]'(by rw [EN.out]; omega)) := List.getElem?_eq_getElem _
            generalize L[q]'(by rw [EN.out]; omega) = p at *
            obtain ⟨pu, pn⟩ := p
            have hh := H.out wr hen.bel
            obtain ⟨g', capv', e1, -, -, -, hc⟩ := hh.own.form
            injection e1 with e1 e2 e3
            injection e1 with e1
            injection e1 with e1
            subst e1
            obtain ⟨d0, d1⟩ := hc q _ hp
            dsimp only at d0 d1
            have HE2 := Lib.hid hen
            have HO2 := Lib.hid hou
            have HPN := Lib.hid (show pu.oneCell' = true by
              obtain ⟨x, hx⟩ : ∃ x, l[q]? = some x := ⟨l[q]'(by rw [EL.out]; omega), List.getElem?_eq_getElem _⟩
              exact (hh.ents.at' q _ x hp hx).1.one)
            have HX := Lib.hid hp
            have HL := Lib.hid (show (L.take j ++ [((.slice (some ⟨gu, 0, none⟩) k.length cu : Value), id)] ++ (L.take q).drop j).length + 1 ≤ 4294967297 by
              rw [List.length_append, List.length_append, List.length_drop, List.length_take, List.length_take, List.length_singleton]; have := EN.out; omega)
            clear hen hou hp hh e2 e3 hc
            have hn4 := HN.out
            go_wp2_with (first | (at_builtin; refine wp_pushE rfl _ _ rfl w.heap.size _ _ rfl (HE2.out.own.alloc _) ⟨wr.heap.size, 0, none⟩ 1 (pu, pn) rfl (newsE wr pu pn) HPN.out HL.out (HE2.out.alloc _).sz ?_; intro v1 w2 hown1 hgrow1; have HE3 := Lib.hid ((HE2.out.alloc _).push hown1 hgrow1); have HO3 := Lib.hid ((HO2.out.alloc _).pushE (HE2.out.own.alloc _) hgrow1); clear hown1 hgrow1))
            go_roundw
            case rel => exact ⟨q + 1, by omega, by omega, by go_num, by rw [take_drop_next HX.out hjq, ← List.append_assoc]; exact HE3.out, HO3.out⟩
            case measure => simp [intOf]; omega
          · obtain rfl : q = n := by omega
            have hh := H.out wr hen.bel
            rw [show L.take q = L from List.take_of_length_le (by rw [EN.out]; exact Nat.le_refl _)] at hen
            have HF := Lib.hid (put_end (id := id) hB hh HLT.out hen hou)
            have HBF := Lib.hid hen.bel
            clear hen hou hh
            go_wp2
            exact HP.out _ _ _ _ HBF.out HF.out.1 HF.out.2

end Go.Proofs.Ytncganfjbalkgaa
