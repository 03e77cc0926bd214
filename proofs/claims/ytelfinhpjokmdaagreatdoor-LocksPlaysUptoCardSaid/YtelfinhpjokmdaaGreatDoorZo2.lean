/-
  Texts of mine put together, in build order.
  Conditions: as each declaration says.
-/
import Derived.Test.YtelfinhpjokmdaaGreatDoorZo1
namespace Go.Proofs.YtelfinhpjokmdaaGreatDoor
set_option maxRecDepth 100000
open Go.RowKit Go.Joins Go.ChangeShapes Go.WideShapes
open Go.MapKept
set_option linter.unusedVariables false
set_option linter.unnecessarySimpa false
set_option linter.unusedSimpArgs false

/-- append, where elements are small -/
theorem OwR.appendB {P : Program} {α : Type} {K : RK P α} (hb16 : K.bytes ≤ 16) (w : World) (B : Nat) (v : Value) (l : List α) (hown : OwR K w B v l) (hB : B ≤ w.heap.size) (ad : Addr) (m c : Nat) (rs : List α) (hm : rs.length = m)
    (hnews : ∀ j u, (K.cells rs)[j]? = some u → w.cell? (ad.add j) = some u) (hsz : l.length + m ≤ 8796093022208) (ty : TypeId) :
    ∃ v' w', (Builtin.append_ #[K.ts, K.ts] ty #[v, .slice (some ad) m c]).run P w = .ok v' w' ∧ OwR K w' B v' (l ++ rs) ∧ w.grownBy w' v.ownBlock ∧ NewR w v v' := by
  obtain ⟨i0, hi, hz0, hz1, hz2⟩ := K.parts
  have hl : (K.cells rs).length = m * K.n := by rw [K.cells_length, hm]
  have hml : l.length + m ≤ maxLen := by unfold maxLen; omega
  have hby : (l.length + m) * K.bytes ≤ 140737488355328 := Nat.le_trans (Nat.mul_le_mul hsz hb16) (by decide)
  obtain ⟨v', w', hr, h1, h2, h3, h4⟩ := run_append_own_at (P := P) (w := w) B K.ts ty K.te i0 K.z K.n K.bytes K.hu hi hz0 hz1 hz2 K.zc K.pos v l.length (K.cells l) hown ad m c (K.cells rs) hl hnews (K.cells_mem rs) hml hby hB
  refine ⟨v', w', hr, ?_, h2, fun k hk => ?_⟩
  · unfold OwR
    rw [K.cells_app, List.length_append, hm]
    exact h1
  · rcases h4 with e | e
    · exact .inl (by rw [← e]; exact hk)
    · rw [e] at hk
      injection hk with hk
      exact .inr (Nat.le_of_eq hk)
theorem OwR.wpB {P : Program} {α : Type} {K : RK P α} {ops : Array Oper} {rest : List Oper} {o : Oper} {a : Act} {w : World} {Q : Exit → Act → World → Prop} (hb16 : K.bytes ≤ 16) (hgd : o.guard = none) (s x : Operand)
    (ho : o.op = .call { callee := .builtin .append, args := #[s, x], argTypes := #[K.ts, K.ts] })
    (B : Nat) (v : Value) (l : List α) (hs : a.eval s = v) (hown : OwR K w B v l) (hB : B ≤ w.heap.size) (ad : Addr) (m c : Nat) (rs : List α) (hm : rs.length = m) (hx : a.eval x = .slice (some ad) m c)
    (hnews : ∀ j u, (K.cells rs)[j]? = some u → w.cell? (ad.add j) = some u) (hsz : l.length + m ≤ 8796093022208)
    (h : ∀ v' w', OwR K w' B v' (l ++ rs) → w.grownBy w' v.ownBlock → NewR w v v' → wpList P ops Q rest (a.put o.dst v') w') : wpList P ops Q (o :: rest) a w := by
  refine wpList_plain hgd fun K' hK' => ?_
  obtain ⟨v', w', hr, h1, h2, h3⟩ := OwR.appendB hb16 w B v l hown hB ad m c rs hm hnews hsz o.type
  unfold Oper.wp
  simp [execOp, ho, resolve, invoke, builtin, hs, hx, hr, Result.andThen]
  exact hK' _ _ (h v' w' h1 h2 h3)
def KG : RK Tryz.prog Gv where
  enc x := [.int .i64 x.1, .int .i64 x.2]
  n := 2
  te := 75
  ts := 39
  bytes := 16
  z := .agg #[.int .i64 0, .int .i64 0]
  len _ := rfl
  one x u hu := by
    simp only [List.mem_cons, List.not_mem_nil, or_false] at hu
    rcases hu with rfl | rfl <;> rfl
  pos := by decide
  by0 := by decide
  hu := Tryz.underlying39
  info := infoG
  zc := rfl
theorem kgcells : ∀ l : List Gv, KG.cells l = gcells l
  | [] => rfl
  | x :: r => by rw [show KG.cells (x :: r) = KG.enc x ++ KG.cells r from rfl, kgcells r]; rfl
theorem owg_of {w : World} {B : Nat} {v : Value} {l : List Gv} (h : OwR KG w B v l) : OwG w B v l := by
  unfold OwR at h
  rw [kgcells] at h
  exact h
theorem OwG.kg {w : World} {B : Nat} {v : Value} {l : List Gv} (h : OwG w B v l) : OwR KG w B v l := by
  unfold OwR
  rw [kgcells]
  exact h
theorem kg_at {w : World} {B g n cap : Nat} {l : List Gv} (h : OwR KG w B (.slice (some ⟨g, 0, none⟩) n cap) l) {i : Nat} {x : Gv} (hi : l[i]? = some x) :
    w.cell? ⟨g, i * 2, none⟩ = some (.int .i64 x.1) ∧ w.cell? ⟨g, i * 2 + 1, none⟩ = some (.int .i64 x.2) ∧ ∀ o, w.frozen? ⟨g, o, none⟩ = false := by
  obtain ⟨g', cap', e, -, -, -, -, hc, hf⟩ := OwR.at h hi
  injection e with e1 e2 e3
  injection e1 with e1
  injection e1 with e1
  subst e1
  exact ⟨hc 0 _ rfl, hc 1 _ rfl, hf⟩
/-- the list is what it is, told by what is in it -/
theorem ed_one {E F : List Gv} (h : E.Pairwise edLt) (k : F.Pairwise edLt) (m : ∀ x, x ∈ E ↔ x ∈ F) : E = F := strict_eq edLt_irr edLt_tr E F h k m
theorem ed_has {E : List Gv} {e : Gv} (h : E.Pairwise edLt) (m : e ∈ E) : edIns e E = E := ed_one (srt_edIns h) h fun x => by
  rw [mem_edIns]
  exact ⟨fun q => q.elim (fun q => by rw [q]; exact m) (fun q => q), .inr⟩
theorem ed_mid {E : List Gv} {e : Gv} {j : Nat} (h : E.Pairwise edLt) (h1 : ∀ x ∈ E.take j, edLt x e) (h2 : ∀ x ∈ E.drop j, edLt e x) : E.take j ++ e :: E.drop j = edIns e E := by
  refine ed_one ?_ (srt_edIns h) fun x => ?_
  · refine List.pairwise_append.2 ⟨h.take, List.pairwise_cons.2 ⟨h2, h.drop⟩, fun a ha b hb => ?_⟩
    rcases List.mem_cons.1 hb with q | q
    · rw [q]; exact h1 a ha
    · exact edLt_tr _ _ _ (h1 a ha) (h2 b q)
  · rw [mem_edIns, List.mem_append, List.mem_cons]
    have hm : x ∈ E ↔ x ∈ E.take j ∨ x ∈ E.drop j := by
      have e := List.take_append_drop j E
      constructor
      · intro hx; rw [← e] at hx; exact List.mem_append.1 hx
      · intro hx; rw [← e]; exact List.mem_append.2 hx
    rw [hm]
    constructor
    · rintro (q | q | q)
      · exact .inr (.inl q)
      · exact .inl q
      · exact .inr (.inr q)
    · rintro (q | q | q)
      · exact .inr (.inl q)
      · exact .inl q
      · exact .inr (.inr q)
/-- an edge in a box -/
theorem bx2 (w : World) (x : Gv) : (w.alloc (.cells #[.int .i64 x.1, .int .i64 x.2] 75)).heap[w.heap.size]? = some (.cells #[.int .i64 x.1, .int .i64 x.2] 75 (0, 0)) := heap_alloc_new w _
/-- the list while the edge is put: how far, whether it is put already -/
def EdP2 (E : List Gv) (e : Gv) (j : Nat) (dn : Bool) (out : List Gv) : Prop := match dn with
  | false => out = E.take j ∧ ∀ x ∈ E.take j, edLt x e
  | true => out ++ E.drop j = edIns e E ∧ ∀ x ∈ E.drop j, edLt e x
set_option maxHeartbeats 16000000 in
theorem redge_any {w0 w : World} {v : Value} {E : List Gv} (h : EnR KG w0 w v E) (hs : E.Pairwise edLt) (hN : E.length ≤ 549755813000) (e : Gv) :
    Calls Tryz.prog 60 #[v, .agg #[.int .i64 e.1, .int .i64 e.2]] w fun r w' => ∃ v', r = .returned v' ∧ EnR KG w0 w' v' (edIns e E) ∧ Below w.heap.size w w' := by
  obtain ⟨va, vc, hve, -, -⟩ := h.own.sl
  obtain ⟨n, hn⟩ : ∃ n, E.length = n := ⟨_, rfl⟩
  rw [hn] at hve hN
  subst hve
  have HN := Lib.hid hn
  have HS := Lib.hid hs
  generalize hP : (fun (r : Ending) (w' : World) => ∃ v', r = .returned v' ∧ EnR KG w0 w' v' (edIns e E) ∧ Below w.heap.size w w') = P
  have HP := Lib.hid hP
  obtain ⟨e1, e2⟩ := e
  obtain ⟨W1, hW1⟩ : ∃ W1, w.alloc (.cells #[.int .i64 e1, .int .i64 e2] 75) = W1 := ⟨_, rfl⟩
  have hb1 : Below w.heap.size w W1 := by rw [← hW1]; exact (Below.refl _ _).alloc (Nat.le_refl _) _
  obtain ⟨p, hp⟩ : ∃ p, w.heap.size = p := ⟨_, rfl⟩
  have HX := Lib.hid (show W1.heap[p]? = some (.cells #[.int .i64 e1, .int .i64 e2] 75 (0, 0)) by rw [← hW1, ← hp]; exact bx2 w (e1, e2))
  have HR := Lib.hid (h.below hb1)
  have HB1 := Lib.hid hb1
  have HE0 := Lib.hid (show EnR KG W1 (W1.alloc (.cells #[] 75)) (.slice (some ⟨W1.heap.size, 0, none⟩) 0 0) [] from ⟨OwR.made (K := KG) W1 (Nat.le_refl _) [] (by decide), (Below.refl _ _).alloc (Nat.le_refl _) _⟩)
  have HED0 := Lib.hid (show EdP2 E (e1, e2) 0 false [] from ⟨rfl, fun x hx => by simp at hx⟩)
  clear h hn hP hb1 hs
  go_enter Tryz.func60, Tryz.ntmps60
  go_upto_region 1 with fail
  try rw [hW1]
  try rw [hp]
  clear hW1 hp
  go_wp2_with fail
  go_loopw [5, 6, 7] (fun v5 dv i wx => ∃ (j : Nat) (dn : Bool) (out : List Gv), j ≤ n ∧ i = .int .i64 j ∧ dv = .bool dn ∧ out.length ≤ j + 1 ∧ Hid (EnR KG W1 wx v5 out) ∧ Hid (EdP2 E (e1, e2) j dn out)) (fun _ _ i _ => n - (intOf i).toNat)
  case atStart => exact ⟨0, false, [], Nat.zero_le _, rfl, rfl, Nat.zero_le _, HE0, HED0⟩
  case round =>
    clear HE0 HED0
    obtain ⟨j, dn, out, hj, rfl, rfl, hol, HE, HED⟩ := hrel
    have hR := HR.out.below HE.out.bel
    have hx9 := (HE.out.bel.block _ (Array.getElem?_eq_some_iff.1 HX.out).1).trans HX.out
    have HRW := Lib.hid hR
    by_cases cj : j < n
    · have cj1 : (j : Int) < (n : Int) := by omega
      obtain ⟨x, hx⟩ : ∃ x, E[j]? = some x := ⟨_, List.getElem?_eq_getElem (by rw [HN.out]; exact cj)⟩
      obtain ⟨g, rfl, -, -, -⟩ := hR.own.blk (i := j) (by rw [HN.out]; exact cj)
      obtain ⟨x1, x2⟩ := x
      obtain ⟨y0, y1, -⟩ := kg_at hR.own hx
      obtain ⟨W2, hW2⟩ : ∃ W2, wr.alloc (.cells #[.int .i64 x1, .int .i64 x2] 75) = W2 := ⟨_, rfl⟩
      have hb2 : Below wr.heap.size wr W2 := by rw [← hW2]; exact (Below.refl _ _).alloc (Nat.le_refl _) _
      have hx2 : W2.heap[wr.heap.size]? = some (.cells #[.int .i64 x1, .int .i64 x2] 75 (0, 0)) := by rw [← hW2]; exact bx2 wr (x1, x2)
      have hp2 := (hb2.block _ (Array.getElem?_eq_some_iff.1 hx9).1).trans hx9
      have q0 : W2.cell? ⟨wr.heap.size, 0, none⟩ = some (.int .i64 x1) := by rw [cell_of_block hx2]; rfl
      have q1 : W2.cell? ⟨wr.heap.size, 1, none⟩ = some (.int .i64 x2) := by rw [cell_of_block hx2]; rfl
      have p0 : W2.cell? ⟨p, 0, none⟩ = some (.int .i64 e1) := by rw [cell_of_block hp2]; rfl
      have p1 : W2.cell? ⟨p, 1, none⟩ = some (.int .i64 e2) := by rw [cell_of_block hp2]; rfl
      have HE2 := Lib.hid (HE.out.below hb2)
      have HQX := Lib.hid hx2
      have HPX := Lib.hid hp2
      have hjw : IntKind.i64.wrap ((j : Int) + 1) = ((j + 1 : Nat) : Int) := by rw [IntWalk.i64_in _ (by omega)]; omega
      have HXX := Lib.hid hx
      have HLN := Lib.hid (show out.length + 2 ≤ 8796093022208 by omega)
      clear hx hb2 hx2 hp2 hR hx9
      go_upto_region 7 with fail
      try rw [hW2]
      clear hW2 y0 y1
      have HNB := Lib.hid (fun (c : u5.ownBlock = some wr.heap.size) => show False by have := (HE.out.own.lt c).2.1; omega)
      by_cases q1 : x1 = e1
      · subst q1
        by_cases q2 : x2 = e2
        · subst q2
          have HF := Lib.hid (show P (.returned (.slice (some ⟨g, 0, none⟩) n vc)) W2 by
            have hm : (x1, x2) ∈ E := List.mem_of_getElem? HXX.out
            rw [← HP.out, ed_has HS.out hm]
            exact ⟨_, rfl, HR.out.below HE2.out.bel, HB1.out.trans (HE2.out.bel.mono HB1.out.size)⟩)
          go_wp2_with fail
          first | exact HF.out | simpa using HF.out
        · cases dn with
          | true =>
            have HNX := Lib.hid (show EdP2 E (x1, e2) (j + 1) true (out ++ [(x1, x2)]) by
              obtain ⟨hd, hl⟩ : out ++ E.drop j = edIns (x1, e2) E ∧ ∀ x ∈ E.drop j, edLt (x1, e2) x := HED.out
              rw [drop_at HXX.out] at hd hl
              exact ⟨by rw [List.append_assoc]; exact hd, fun y hy => hl y (List.mem_cons_of_mem _ hy)⟩)
            have hbC : Below W2.heap.size W2 (W2.alloc (.cells #[.int .i64 x1, .int .i64 x2] 75)) := (Below.refl _ _).alloc (Nat.le_refl _) _
            have HEC := Lib.hid (HE2.out.below hbC)
            have HNW := Lib.hid (one_new KG W2 (x1, x2) #[.int .i64 x1, .int .i64 x2] rfl)
            have HSZ := Lib.hid HEC.out.bel.size
            have HLN1 := Lib.hid (show out.length + 1 ≤ 8796093022208 by omega)
            clear hbC
            go_wp2_with (first | (at_builtin; refine OwR.wpB (K := KG) (by decide) rfl _ _ rfl W1.heap.size u5 _ rfl HEC.out.own HSZ.out ⟨_, 0, none⟩ 1 _ [(x1, x2)] rfl rfl HNW.out HLN1.out ?_; intro v' w6 q6 g6 n6; have HK6 := Lib.hid (HEC.out.push q6 g6); clear q6 g6 n6))
            go_roundw
            case rel => exact ⟨j + 1, true, out ++ [(x1, x2)], by omega, by first | rfl | go_num, rfl, by rw [List.length_append]; simp; omega, HK6, HNX⟩
            case measure => simp [intOf]; omega
          | false =>
            by_cases c1 : e2 < x2
            · have cl : edLt (x1, e2) (x1, x2) := .inr ⟨rfl, c1⟩
              have HNX := Lib.hid (show EdP2 E (x1, e2) (j + 1) true (out ++ [(x1, e2)] ++ [(x1, x2)]) by
                obtain ⟨hd, hl⟩ : out = E.take j ∧ ∀ x ∈ E.take j, edLt x (x1, e2) := HED.out
                have hdr : ∀ y ∈ E.drop j, edLt (x1, e2) y := by
                  rw [drop_at HXX.out]
                  intro y hy
                  rcases List.mem_cons.1 hy with q | q
                  · rw [q]; exact cl
                  · have hp := HS.out.drop (i := j)
                    rw [drop_at HXX.out] at hp
                    exact edLt_tr _ _ _ cl ((List.pairwise_cons.1 hp).1 y q)
                refine ⟨?_, fun y hy => hdr y (by rw [drop_at HXX.out]; exact List.mem_cons_of_mem _ hy)⟩
                rw [← ed_mid HS.out hl hdr, drop_at HXX.out, hd]
                simp)
              have hbC : Below W2.heap.size W2 (W2.alloc (.cells #[.int .i64 x1, .int .i64 e2] 75)) := (Below.refl _ _).alloc (Nat.le_refl _) _
              have HEC := Lib.hid (HE2.out.below hbC)
              have HNW := Lib.hid (one_new KG W2 (x1, e2) #[.int .i64 x1, .int .i64 e2] rfl)
              have HSZ := Lib.hid HEC.out.bel.size
              have HLN1 := Lib.hid (show out.length + 1 ≤ 8796093022208 by omega)
              have HOJ := Lib.hid (show out.length ≤ j by obtain ⟨hd, -⟩ : out = E.take j ∧ ∀ x ∈ E.take j, edLt x (x1, e2) := HED.out; rw [hd, List.length_take]; omega)
              clear hbC cl
              have HKN : True := trivial
              go_upto_region 10 with fail
              go_wp2_with (first | (at_builtin; refine OwR.wpB (K := KG) (by decide) rfl _ _ rfl W1.heap.size u5 _ rfl HEC.out.own HSZ.out ⟨_, 0, none⟩ 1 _ [(x1, e2)] rfl rfl HNW.out HLN1.out ?_; intro v' w6 q6 g6 n6; have HK6 := Lib.hid (HEC.out.push q6 g6); have hgf : Frm (fun k => u5.ownBlock = some k) (W2.alloc (.cells #[.int .i64 x1, .int .i64 e2] 75)) w6 := Frm.grown (F := fun k => u5.ownBlock = some k) (Frm.refl _ _) g6 (fun k hk => .inl hk); have hq6 := (hgf.heap (by exact Nat.lt_of_lt_of_le (Array.getElem?_eq_some_iff.1 HQX.out).1 (by simp)) (fun c => HNB.out c)).trans ((((Below.refl _ W2).alloc (Nat.le_refl _) _).block _ (Array.getElem?_eq_some_iff.1 HQX.out).1).trans HQX.out); have z0 : w6.cell? ⟨wr.heap.size, 0, none⟩ = some (.int .i64 x1) := (by rw [cell_of_block hq6]; rfl); have z1 : w6.cell? ⟨wr.heap.size, 1, none⟩ = some (.int .i64 x2) := (by rw [cell_of_block hq6]; rfl); have HEC2 := Lib.hid (HK6.out.below ((Below.refl _ w6).alloc (Nat.le_refl _) (.cells #[.int .i64 x1, .int .i64 x2] 75))); have HNW2 := Lib.hid (one_new KG w6 (x1, x2) #[.int .i64 x1, .int .i64 x2] rfl); have HSZ2 := Lib.hid HEC2.out.bel.size; have HLN2 := Lib.hid (show (out ++ [(x1, e2)]).length + 1 ≤ 8796093022208 from (by rw [List.length_append]; simp; omega)); clear q6 g6 n6 hq6 hgf) | (at_builtin; refine OwR.wpB (K := KG) (by decide) rfl _ _ rfl W1.heap.size v' _ rfl HEC2.out.own HSZ2.out ⟨_, 0, none⟩ 1 _ [(x1, x2)] rfl rfl HNW2.out HLN2.out ?_; intro v2 w8 q8 g8 n8; have HK8 := Lib.hid (HEC2.out.push q8 g8); clear q8 g8 n8))
              go_roundw
              case rel => exact ⟨j + 1, true, out ++ [(x1, e2)] ++ [(x1, x2)], by omega, by first | rfl | go_num, rfl, (by have h9 := HOJ.out; rw [List.length_append, List.length_append]; simp; omega), HK8, HNX⟩
              case measure => simp [intOf]; omega
            · have cg : edLt (x1, x2) (x1, e2) := by exact .inr ⟨rfl, by omega⟩
              have HNX := Lib.hid (show EdP2 E (x1, e2) (j + 1) false (out ++ [(x1, x2)]) by
                obtain ⟨hd, hl⟩ : out = E.take j ∧ ∀ x ∈ E.take j, edLt x (x1, e2) := HED.out
                have ht : E.take (j + 1) = E.take j ++ [(x1, x2)] := by rw [List.take_add_one, HXX.out]; rfl
                refine ⟨by rw [ht, hd], fun y hy => ?_⟩
                rw [ht] at hy
                rcases List.mem_append.1 hy with q | q
                · exact hl y q
                · simp at q
                  rw [q]
                  exact cg)
              clear cg
              have hbC : Below W2.heap.size W2 (W2.alloc (.cells #[.int .i64 x1, .int .i64 x2] 75)) := (Below.refl _ _).alloc (Nat.le_refl _) _
              have HEC := Lib.hid (HE2.out.below hbC)
              have HNW := Lib.hid (one_new KG W2 (x1, x2) #[.int .i64 x1, .int .i64 x2] rfl)
              have HSZ := Lib.hid HEC.out.bel.size
              have HLN1 := Lib.hid (show out.length + 1 ≤ 8796093022208 by omega)
              clear hbC
              go_wp2_with (first | (at_builtin; refine OwR.wpB (K := KG) (by decide) rfl _ _ rfl W1.heap.size u5 _ rfl HEC.out.own HSZ.out ⟨_, 0, none⟩ 1 _ [(x1, x2)] rfl rfl HNW.out HLN1.out ?_; intro v' w6 q6 g6 n6; have HK6 := Lib.hid (HEC.out.push q6 g6); clear q6 g6 n6))
              go_roundw
              case rel => exact ⟨j + 1, false, out ++ [(x1, x2)], by omega, by first | rfl | go_num, rfl, by rw [List.length_append]; simp; omega, HK6, HNX⟩
              case measure => simp [intOf]; omega
      · cases dn with
        | true =>
          have HNX := Lib.hid (show EdP2 E (e1, e2) (j + 1) true (out ++ [(x1, x2)]) by
            obtain ⟨hd, hl⟩ : out ++ E.drop j = edIns (e1, e2) E ∧ ∀ x ∈ E.drop j, edLt (e1, e2) x := HED.out
            rw [drop_at HXX.out] at hd hl
            exact ⟨by rw [List.append_assoc]; exact hd, fun y hy => hl y (List.mem_cons_of_mem _ hy)⟩)
          have hbC : Below W2.heap.size W2 (W2.alloc (.cells #[.int .i64 x1, .int .i64 x2] 75)) := (Below.refl _ _).alloc (Nat.le_refl _) _
          have HEC := Lib.hid (HE2.out.below hbC)
          have HNW := Lib.hid (one_new KG W2 (x1, x2) #[.int .i64 x1, .int .i64 x2] rfl)
          have HSZ := Lib.hid HEC.out.bel.size
          have HLN1 := Lib.hid (show out.length + 1 ≤ 8796093022208 by omega)
          clear hbC
          go_wp2_with (first | (at_builtin; refine OwR.wpB (K := KG) (by decide) rfl _ _ rfl W1.heap.size u5 _ rfl HEC.out.own HSZ.out ⟨_, 0, none⟩ 1 _ [(x1, x2)] rfl rfl HNW.out HLN1.out ?_; intro v' w6 q6 g6 n6; have HK6 := Lib.hid (HEC.out.push q6 g6); clear q6 g6 n6))
          go_roundw
          case rel => exact ⟨j + 1, true, out ++ [(x1, x2)], by omega, by first | rfl | go_num, rfl, by rw [List.length_append]; simp; omega, HK6, HNX⟩
          case measure => simp [intOf]; omega
        | false =>
          by_cases c1 : e1 < x1
          · have cl : edLt (e1, e2) (x1, x2) := .inl c1
            have HNX := Lib.hid (show EdP2 E (e1, e2) (j + 1) true (out ++ [(e1, e2)] ++ [(x1, x2)]) by
              obtain ⟨hd, hl⟩ : out = E.take j ∧ ∀ x ∈ E.take j, edLt x (e1, e2) := HED.out
              have hdr : ∀ y ∈ E.drop j, edLt (e1, e2) y := by
                rw [drop_at HXX.out]
                intro y hy
                rcases List.mem_cons.1 hy with q | q
                · rw [q]; exact cl
                · have hp := HS.out.drop (i := j)
                  rw [drop_at HXX.out] at hp
                  exact edLt_tr _ _ _ cl ((List.pairwise_cons.1 hp).1 y q)
              refine ⟨?_, fun y hy => hdr y (by rw [drop_at HXX.out]; exact List.mem_cons_of_mem _ hy)⟩
              rw [← ed_mid HS.out hl hdr, drop_at HXX.out, hd]
              simp)
            have hbC : Below W2.heap.size W2 (W2.alloc (.cells #[.int .i64 e1, .int .i64 e2] 75)) := (Below.refl _ _).alloc (Nat.le_refl _) _
            have HEC := Lib.hid (HE2.out.below hbC)
            have HNW := Lib.hid (one_new KG W2 (e1, e2) #[.int .i64 e1, .int .i64 e2] rfl)
            have HSZ := Lib.hid HEC.out.bel.size
            have HLN1 := Lib.hid (show out.length + 1 ≤ 8796093022208 by omega)
            have HOJ := Lib.hid (show out.length ≤ j by obtain ⟨hd, -⟩ : out = E.take j ∧ ∀ x ∈ E.take j, edLt x (e1, e2) := HED.out; rw [hd, List.length_take]; omega)
            clear hbC cl
            have HKN : True := trivial
            go_upto_region 10 with fail
            go_wp2_with (first | (at_builtin; refine OwR.wpB (K := KG) (by decide) rfl _ _ rfl W1.heap.size u5 _ rfl HEC.out.own HSZ.out ⟨_, 0, none⟩ 1 _ [(e1, e2)] rfl rfl HNW.out HLN1.out ?_; intro v' w6 q6 g6 n6; have HK6 := Lib.hid (HEC.out.push q6 g6); have hgf : Frm (fun k => u5.ownBlock = some k) (W2.alloc (.cells #[.int .i64 e1, .int .i64 e2] 75)) w6 := Frm.grown (F := fun k => u5.ownBlock = some k) (Frm.refl _ _) g6 (fun k hk => .inl hk); have hq6 := (hgf.heap (by exact Nat.lt_of_lt_of_le (Array.getElem?_eq_some_iff.1 HQX.out).1 (by simp)) (fun c => HNB.out c)).trans ((((Below.refl _ W2).alloc (Nat.le_refl _) _).block _ (Array.getElem?_eq_some_iff.1 HQX.out).1).trans HQX.out); have z0 : w6.cell? ⟨wr.heap.size, 0, none⟩ = some (.int .i64 x1) := (by rw [cell_of_block hq6]; rfl); have z1 : w6.cell? ⟨wr.heap.size, 1, none⟩ = some (.int .i64 x2) := (by rw [cell_of_block hq6]; rfl); have HEC2 := Lib.hid (HK6.out.below ((Below.refl _ w6).alloc (Nat.le_refl _) (.cells #[.int .i64 x1, .int .i64 x2] 75))); have HNW2 := Lib.hid (one_new KG w6 (x1, x2) #[.int .i64 x1, .int .i64 x2] rfl); have HSZ2 := Lib.hid HEC2.out.bel.size; have HLN2 := Lib.hid (show (out ++ [(e1, e2)]).length + 1 ≤ 8796093022208 from (by rw [List.length_append]; simp; omega)); clear q6 g6 n6 hq6 hgf) | (at_builtin; refine OwR.wpB (K := KG) (by decide) rfl _ _ rfl W1.heap.size v' _ rfl HEC2.out.own HSZ2.out ⟨_, 0, none⟩ 1 _ [(x1, x2)] rfl rfl HNW2.out HLN2.out ?_; intro v2 w8 q8 g8 n8; have HK8 := Lib.hid (HEC2.out.push q8 g8); clear q8 g8 n8))
            go_roundw
            case rel => exact ⟨j + 1, true, out ++ [(e1, e2)] ++ [(x1, x2)], by omega, by first | rfl | go_num, rfl, (by have h9 := HOJ.out; rw [List.length_append, List.length_append]; simp; omega), HK8, HNX⟩
            case measure => simp [intOf]; omega
          · have cg : edLt (x1, x2) (e1, e2) := by exact .inl (by omega)
            have HNX := Lib.hid (show EdP2 E (e1, e2) (j + 1) false (out ++ [(x1, x2)]) by
              obtain ⟨hd, hl⟩ : out = E.take j ∧ ∀ x ∈ E.take j, edLt x (e1, e2) := HED.out
              have ht : E.take (j + 1) = E.take j ++ [(x1, x2)] := by rw [List.take_add_one, HXX.out]; rfl
              refine ⟨by rw [ht, hd], fun y hy => ?_⟩
              rw [ht] at hy
              rcases List.mem_append.1 hy with q | q
              · exact hl y q
              · simp at q
                rw [q]
                exact cg)
            clear cg
            have hbC : Below W2.heap.size W2 (W2.alloc (.cells #[.int .i64 x1, .int .i64 x2] 75)) := (Below.refl _ _).alloc (Nat.le_refl _) _
            have HEC := Lib.hid (HE2.out.below hbC)
            have HNW := Lib.hid (one_new KG W2 (x1, x2) #[.int .i64 x1, .int .i64 x2] rfl)
            have HSZ := Lib.hid HEC.out.bel.size
            have HLN1 := Lib.hid (show out.length + 1 ≤ 8796093022208 by omega)
            clear hbC
            go_wp2_with (first | (at_builtin; refine OwR.wpB (K := KG) (by decide) rfl _ _ rfl W1.heap.size u5 _ rfl HEC.out.own HSZ.out ⟨_, 0, none⟩ 1 _ [(x1, x2)] rfl rfl HNW.out HLN1.out ?_; intro v' w6 q6 g6 n6; have HK6 := Lib.hid (HEC.out.push q6 g6); clear q6 g6 n6))
            go_roundw
            case rel => exact ⟨j + 1, false, out ++ [(x1, x2)], by omega, by first | rfl | go_num, rfl, by rw [List.length_append]; simp; omega, HK6, HNX⟩
            case measure => simp [intOf]; omega
    · obtain rfl : j = n := by omega
      have cf : decide ((j : Int) < (j : Int)) = false := by simp
      cases dn with
      | true =>
        have HF := Lib.hid (show P (.returned u5) wr by
          obtain ⟨hd, -⟩ : out ++ E.drop j = edIns (e1, e2) E ∧ _ := HED.out
          rw [List.drop_eq_nil_of_le (Nat.le_of_eq HN.out), List.append_nil] at hd
          rw [← HP.out, ← hd]
          exact ⟨u5, rfl, ⟨HE.out.own.le HR.out.bel.size, HRW.out.bel⟩, HB1.out.trans (HE.out.bel.mono HB1.out.size)⟩)
        clear hR hx9
        go_wp2_with fail
        first | exact HF.out | simpa using HF.out
      | false =>
        have hbC : Below wr.heap.size wr (wr.alloc (.cells #[.int .i64 e1, .int .i64 e2] 75)) := (Below.refl _ _).alloc (Nat.le_refl _) _
        have HEC := Lib.hid (HE.out.below hbC)
        have HNW := Lib.hid (one_new KG wr (e1, e2) #[.int .i64 e1, .int .i64 e2] rfl)
        have HSZ := Lib.hid HEC.out.bel.size
        have HLN := Lib.hid (show out.length + 1 ≤ 8796093022208 by omega)
        have p0 : wr.cell? ⟨p, 0, none⟩ = some (.int .i64 e1) := by rw [cell_of_block hx9]; rfl
        have p1 : wr.cell? ⟨p, 1, none⟩ = some (.int .i64 e2) := by rw [cell_of_block hx9]; rfl
        clear hbC hR hx9
        go_wp2_with (first | (at_builtin; refine OwR.wpB (K := KG) (by decide) rfl _ _ rfl W1.heap.size u5 _ rfl HEC.out.own HSZ.out ⟨_, 0, none⟩ 1 _ [(e1, e2)] rfl rfl HNW.out HLN.out ?_; intro v' w6 q6 g6 n6; have HK6 := Lib.hid (HEC.out.push q6 g6); clear q6 g6 n6))
        have HF := Lib.hid (show P (.returned v') w6 by
          obtain ⟨hd, hl⟩ : out = E.take j ∧ _ := HED.out
          have e := ed_mid (e := (e1, e2)) (j := j) HS.out hl (by rw [List.drop_eq_nil_of_le (Nat.le_of_eq HN.out)]; intro x hx; cases hx)
          rw [List.drop_eq_nil_of_le (Nat.le_of_eq HN.out)] at e
          rw [← HP.out, ← e, ← hd]
          exact ⟨v', rfl, ⟨HK6.out.own.le HR.out.bel.size, HR.out.bel.trans (HK6.out.bel.mono HR.out.bel.size)⟩, HB1.out.trans (HK6.out.bel.mono HB1.out.size)⟩)
        first | exact HF.out | simpa using HF.out

end Go.Proofs.YtelfinhpjokmdaaGreatDoor

namespace Go.Proofs.YtelfinhpjokmdaaGreatDoor
set_option maxRecDepth 100000
open Go.RowKit Go.Joins Go.ChangeShapes Go.WideShapes
open Go.MapKept
set_option linter.unusedVariables false
set_option linter.unnecessarySimpa false
set_option linter.unusedSimpArgs false

/-- edges in order, told by what they are -/
structure EdM (M : Gv → Prop) (E : List Gv) : Prop where
  srt : E.Pairwise edLt
  mem : ∀ e, e ∈ E ↔ M e
theorem EdM.congr {M M' : Gv → Prop} {E : List Gv} (h : EdM M E) (c : ∀ e, M e ↔ M' e) : EdM M' E := ⟨h.srt, fun e => (h.mem e).trans (c e)⟩
theorem EdM.ins {M : Gv → Prop} {E : List Gv} (h : EdM M E) (e : Gv) : EdM (fun x => x = e ∨ M x) (edIns e E) := ⟨srt_edIns h.srt, fun x => by rw [mem_edIns, h.mem]⟩
/-- who can stand in an edge -/
def InT (T : TbL RS) (e : Gv) : Prop := e.1 ∈ T.wt.map (fun w => w.l.txn) ∧ e.2 ∈ T.hv.map (fun h => h.txn) ++ T.wt.map (fun w => w.l.txn)
theorem EdM.few {M : Gv → Prop} {E : List Gv} {T : TbL RS} (h : EdM M E) (hi : ∀ e, M e → InT T e) : E.length ≤ T.wt.length * sizT T := by
  have hnd : E.Nodup := (show List.Pairwise (fun a b => a ≠ b) E from h.srt.imp (fun {a b} (hab : edLt a b) (e : a = b) => edLt_irr b (by rw [e] at hab; exact hab)))
  have hA := nodup_lenR E ((T.wt.map (fun w => w.l.txn)).flatMap fun a => (T.hv.map (fun h => h.txn) ++ T.wt.map (fun w => w.l.txn)).map fun c => (a, c)) hnd fun x hx => by
    obtain ⟨h1, h2⟩ := hi x ((h.mem x).1 hx)
    exact List.mem_flatMap.2 ⟨x.1, h1, List.mem_map.2 ⟨x.2, h2, rfl⟩⟩
  refine Nat.le_trans hA ?_
  have hl : ∀ (A : List Int) (C : List Int), (A.flatMap fun a => C.map fun c => (a, c)).length = A.length * C.length := by
    intro A C
    induction A with
    | nil => simp
    | cons a r ih => rw [List.flatMap_cons, List.length_append, ih, List.length_map, List.length_cons, Nat.add_mul]; omega
  rw [hl, List.length_append, List.length_map, List.length_map]
  exact Nat.le_refl _
section
variable (T : TbL RS) (i : Nat) (l : Lv) (Q : List Lv) (k : Nat)
def M0 (e : Gv) : Prop := ∃ w ∈ T.wt.take i, w.l.txn = e.1 ∧ Bars mds T w.l e.2
def MH (e : Gv) : Prop := M0 T i e ∨ (e.1 = l.txn ∧ ∃ h ∈ T.hv.take k, h.res = l.res ∧ h.txn ≠ l.txn ∧ tgI h.mode l.mode = false ∧ h.txn = e.2)
def MQ (e : Gv) : Prop := MH T i l T.hv.length e ∨ (e.1 = l.txn ∧ ∃ x ∈ Q.take k, x.txn = e.2)
end
theorem m0_in {T : TbL RS} {i : Nat} {e : Gv} (h : M0 T i e) : InT T e := by
  obtain ⟨w, hw, e1, hb⟩ := h
  have hw' := List.mem_of_mem_take hw
  refine ⟨List.mem_map.2 ⟨w, hw', e1⟩, ?_⟩
  rcases hb with ⟨h, hh, -, -, -, e2⟩ | hq
  · exact List.mem_append.2 (.inl (List.mem_map.2 ⟨h, hh, e2⟩))
  · obtain ⟨x, hx, e2⟩ := List.mem_map.1 hq
    have hx2 := (List.takeWhile_sublist _).subset hx
    obtain ⟨-, u, hu, rfl⟩ := mem_que.1 hx2
    exact List.mem_append.2 (.inr (List.mem_map.2 ⟨u, hu, e2⟩))
theorem mh_in {T : TbL RS} {i k : Nat} {w : Wv} (hw : w ∈ T.wt) {e : Gv} (h : MH T i w.l k e) : InT T e := by
  rcases h with h | ⟨e1, h, hh, -, -, -, e2⟩
  · exact m0_in h
  · exact ⟨List.mem_map.2 ⟨w, hw, e1.symm⟩, List.mem_append.2 (.inl (List.mem_map.2 ⟨h, List.mem_of_mem_take hh, e2⟩))⟩
theorem mq_in {T : TbL RS} {i k : Nat} {w : Wv} (hw : w ∈ T.wt) {e : Gv} (h : MQ T i w.l (que T.wt w.l.res) k e) : InT T e := by
  rcases h with h | ⟨e1, x, hx, e2⟩
  · exact mh_in hw h
  · obtain ⟨-, u, hu, rfl⟩ := mem_que.1 (List.mem_of_mem_take hx)
    exact ⟨List.mem_map.2 ⟨w, hw, e1.symm⟩, List.mem_append.2 (.inr (List.mem_map.2 ⟨u, hu, e2⟩))⟩
theorem m0_zero (T : TbL RS) (e : Gv) : M0 T 0 e ↔ False := by unfold M0; simp
theorem mh_zero (T : TbL RS) (i : Nat) (l : Lv) (e : Gv) : M0 T i e ↔ MH T i l 0 e := by unfold MH; simp
theorem mh_yes {T : TbL RS} {i k : Nat} {l h : Lv} (hk : T.hv[k]? = some h) (h1 : h.res = l.res) (h2 : h.txn ≠ l.txn) (h3 : tgI h.mode l.mode = false) (e : Gv) : (e = (l.txn, h.txn) ∨ MH T i l k e) ↔ MH T i l (k + 1) e := by
  unfold MH
  rw [List.take_add_one, hk]
  constructor
  · rintro (q | q | ⟨q, x, hx, r⟩)
    · exact .inr ⟨by rw [q], h, by simp, h1, h2, h3, by rw [q]⟩
    · exact .inl q
    · exact .inr ⟨q, x, List.mem_append.2 (.inl hx), r⟩
  · rintro (q | ⟨q, x, hx, r1, r2, r3, r4⟩)
    · exact .inr (.inl q)
    · rcases List.mem_append.1 hx with g | g
      · exact .inr (.inr ⟨q, x, g, r1, r2, r3, r4⟩)
      · simp at g
        exact .inl (Prod.ext q (by rw [← r4, g]))
theorem mh_no {T : TbL RS} {i k : Nat} {l h : Lv} (hk : T.hv[k]? = some h) (hn : ¬ (h.res = l.res ∧ h.txn ≠ l.txn ∧ tgI h.mode l.mode = false)) (e : Gv) : MH T i l k e ↔ MH T i l (k + 1) e := by
  unfold MH
  rw [List.take_add_one, hk]
  constructor
  · rintro (q | ⟨q, x, hx, r⟩)
    · exact .inl q
    · exact .inr ⟨q, x, List.mem_append.2 (.inl hx), r⟩
  · rintro (q | ⟨q, x, hx, r1, r2, r3, r4⟩)
    · exact .inl q
    · rcases List.mem_append.1 hx with g | g
      · exact .inr ⟨q, x, g, r1, r2, r3, r4⟩
      · simp at g
        rw [g] at r1 r2 r3
        exact absurd ⟨r1, r2, r3⟩ hn
theorem mq_zero (T : TbL RS) (i : Nat) (l : Lv) (Q : List Lv) (e : Gv) : MH T i l T.hv.length e ↔ MQ T i l Q 0 e := by unfold MQ; simp
theorem mq_next {T : TbL RS} {i k : Nat} {l x : Lv} {Q : List Lv} (hk : Q[k]? = some x) (e : Gv) : (e = (l.txn, x.txn) ∨ MQ T i l Q k e) ↔ MQ T i l Q (k + 1) e := by
  unfold MQ
  rw [List.take_add_one, hk]
  constructor
  · rintro (q | q | ⟨q, y, hy, r⟩)
    · exact .inr ⟨by rw [q], x, by simp, by rw [q]⟩
    · exact .inl q
    · exact .inr ⟨q, y, List.mem_append.2 (.inl hy), r⟩
  · rintro (q | ⟨q, y, hy, r⟩)
    · exact .inr (.inl q)
    · rcases List.mem_append.1 hy with g | g
      · exact .inr (.inr ⟨q, y, g, r⟩)
      · simp at g
        exact .inl (Prod.ext q (by rw [← r, g]))
theorem ahead_take {Q : List Lv} {t : Int} {k : Nat} (h1 : ∀ x ∈ Q.take k, x.txn ≠ t) (h2 : ∀ x, Q[k]? = some x → x.txn = t) : Q.takeWhile (fun l => !decide (l.txn = t)) = Q.take k := by
  induction Q generalizing k with
  | nil => simp
  | cons y r ih =>
    cases k with
    | zero =>
      have := h2 y (by simp)
      rw [List.takeWhile_cons, if_neg (by simp [this])]
      rfl
    | succ k =>
      have := h1 y (by simp)
      rw [List.takeWhile_cons, if_pos (by simp [this]), List.take_succ_cons, ih (k := k) (fun x hx => h1 x (by rw [List.take_succ_cons]; exact List.mem_cons_of_mem _ hx)) (fun x hx => h2 x (by simpa using hx))]
theorem mq_end {T : TbL RS} {i k : Nat} {w : Wv} (hw : T.wt[i]? = some w) (h1 : ∀ x ∈ (que T.wt w.l.res).take k, x.txn ≠ w.l.txn) (h2 : ∀ x, (que T.wt w.l.res)[k]? = some x → x.txn = w.l.txn) (e : Gv) : MQ T i w.l (que T.wt w.l.res) k e ↔ M0 T (i + 1) e := by
  have ht := ahead_take h1 h2
  unfold M0
  rw [List.take_add_one, hw]
  constructor
  · rintro ((⟨u, hu, q1, q2⟩ | ⟨q1, h, hh, r1, r2, r3, r4⟩) | ⟨q1, x, hx, r⟩)
    · exact ⟨u, List.mem_append.2 (.inl hu), q1, q2⟩
    · exact ⟨w, by simp, q1.symm, .inl ⟨h, List.mem_of_mem_take hh, r1, r2, r3, r4⟩⟩
    · exact ⟨w, by simp, q1.symm, .inr (by unfold aheadQ; rw [ht]; exact List.mem_map.2 ⟨x, hx, r⟩)⟩
  · rintro ⟨u, hu, q1, q2⟩
    rcases List.mem_append.1 hu with g | g
    · exact .inl (.inl ⟨u, g, q1, q2⟩)
    · simp at g
      subst g
      rcases q2 with ⟨h, hh, r1, r2, r3, r4⟩ | q2
      · exact .inl (.inr ⟨q1.symm, h, by rw [List.take_of_length_le (Nat.le_refl _)]; exact hh, r1, r2, r3, r4⟩)
      · unfold aheadQ at q2
        rw [ht] at q2
        obtain ⟨x, hx, r⟩ := List.mem_map.1 q2
        exact .inr ⟨q1.symm, x, hx, r⟩
theorem m0_all {T : TbL RS} {E : List Gv} (h : EdM (M0 T T.wt.length) E) : EdS mds T E := ⟨h.srt, fun e => by
  rw [h.mem]
  unfold M0
  rw [List.take_of_length_le (Nat.le_refl _)]⟩

end Go.Proofs.YtelfinhpjokmdaaGreatDoor

namespace Go.Proofs.YtelfinhpjokmdaaGreatDoor
set_option maxRecDepth 100000
open Go.RowKit Go.Joins Go.ChangeShapes Go.WideShapes
open Go.MapKept
set_option linter.unusedVariables false
set_option linter.unnecessarySimpa false
set_option linter.unusedSimpArgs false

theorem clq {w w0 : World} {Q : Prop} (h : Below w.heap.size w w0 ∧ Q) : Below w.heap.size w w0 := h.1
set_option maxHeartbeats 16000000 in
theorem redges_any {w : World} {B b : Nat} {vh vw : Value} {T : TbL RS} (h : RfM w B b vh vw T.hv T.wt) (hZ : sizT T ≤ 1000000) (hE : T.wt.length * sizT T ≤ 549755813000) :
    Calls Tryz.prog 38 #[.pointer (some ⟨b, 0, none⟩)] w fun e w' => ∃ v E, e = .returned v ∧ OwG w' w.heap.size v E ∧ EdS mds T E ∧ Below w.heap.size w w' := by
  obtain ⟨ha, hc, hhe, -, -⟩ := h.oh.sl
  obtain ⟨nh, hnh⟩ : ∃ n, T.hv.length = n := ⟨_, rfl⟩
  rw [hnh] at hhe
  subst hhe
  obtain ⟨wa, wc, hwe, -, -⟩ := h.ow.sl
  obtain ⟨n, hn⟩ : ∃ n, T.wt.length = n := ⟨_, rfl⟩
  rw [hn] at hwe
  subst hwe
  have hnn : nh ≤ 1000000 ∧ n ≤ 1000000 := by unfold sizT at hZ; omega
  obtain ⟨hn1, hn2⟩ := hnn
  have HN := Lib.hid (And.intro hnh hn)
  have HZ := Lib.hid (And.intro hZ hE)
  have HM := Lib.hid h
  generalize hP : (fun (e : Ending) (w' : World) => ∃ v E, e = .returned v ∧ OwG w' w.heap.size v E ∧ EdS mds T E ∧ Below w.heap.size w w') = P
  have HP := Lib.hid hP
  have HE0 := Lib.hid (show EnR KG w (w.alloc (.cells #[] 75)) (.slice (some ⟨w.heap.size, 0, none⟩) 0 0) [] from ⟨OwR.made (K := KG) w (Nat.le_refl _) [] (by decide), (Below.refl _ _).alloc (Nat.le_refl _) _⟩)
  have HD0 := Lib.hid (show EdM (M0 T 0) [] from ⟨List.Pairwise.nil, fun e => by rw [m0_zero]; simp⟩)
  clear h hZ hE hP hnh hn
  go_enter Tryz.func38, Tryz.ntmps38
  go_wp2_with fail
  go_loopw [3, 4] (fun v3 i wx => ∃ (j : Nat) (E : List Gv), j ≤ n ∧ i = .int .i64 j ∧ Hid (EnR KG w wx v3 E) ∧ Hid (EdM (M0 T j) E)) (fun _ i _ => n - (intOf i).toNat)
  case atStart => exact ⟨0, [], Nat.zero_le _, rfl, HE0, HD0⟩
  case round =>
    clear HE0 HD0
    obtain ⟨j, E, hj, rfl, HE, HD⟩ := hrel
    have hM := HM.out.below HE.out.bel
    obtain ⟨-, c1, -⟩ := hM.cells
    by_cases cj : j < n
    · have cj1 : (j : Int) < (n : Int) := by omega
      obtain ⟨x, hx⟩ : ∃ x, T.wt[j]? = some x := ⟨_, List.getElem?_eq_getElem (by rw [HN.out.2]; exact cj)⟩
      obtain ⟨g, rfl, -, -, -⟩ := hM.ow.blk (i := j) (by rw [HN.out.2]; exact cj)
      obtain ⟨x0, x1, x2, -, -⟩ := kw_at hM.ow hx
      obtain ⟨l, hl⟩ : ∃ l, x.l = l := ⟨_, rfl⟩
      rw [hl] at x0 x1 x2
      obtain ⟨p, hp⟩ : ∃ p, wr.heap.size = p := ⟨_, rfl⟩
      obtain ⟨W2, hW2⟩ : ∃ W2, wr.alloc (.cells #[.int .i64 l.txn, .string ⟨l.res.toArray⟩, .int .i64 l.mode] 42) = W2 := ⟨_, rfl⟩
      have hb2 : Below wr.heap.size wr W2 := by rw [← hW2]; exact (Below.refl _ _).alloc (Nat.le_refl _) _
      have HX2 := Lib.hid (show BxL W2 p l by rw [← hW2, ← hp]; exact bxL_new wr l)
      have HE2 := Lib.hid (HE.out.below hb2)
      have HD2 := Lib.hid (HD.out.congr (mh_zero T j l))
      have hjw : IntKind.i64.wrap ((j : Int) + 1) = ((j + 1 : Nat) : Int) := by rw [IntWalk.i64_in _ (by omega)]; omega
      have HXX := Lib.hid (And.intro hx hl)
      clear hx hl hb2 hM HE HD
      go_upto_region 6 with fail
      try rw [hW2]
      try rw [hp]
      clear hW2 hp c1 x0 x1 x2
      go_wp2_with fail
      go_loopw [3, 6] (fun v3 i wx => ∃ (k : Nat) (E : List Gv), k ≤ nh ∧ i = .int .i64 k ∧ Hid (EnR KG w wx v3 E) ∧ Hid (BxL wx p l) ∧ Hid (EdM (MH T j l k) E)) (fun _ i _ => nh - (intOf i).toNat)
      case atStart => exact ⟨0, E, Nat.zero_le _, rfl, HE2, HX2, HD2⟩
      case round =>
        clear HE2 HX2 HD2
        obtain ⟨k, E, hk, rfl, HE, HX, HD⟩ := hrel
        have hM := HM.out.below HE.out.bel
        obtain ⟨c0, -, -⟩ := hM.cells
        by_cases ck : k < nh
        · have ck1 : (k : Int) < (nh : Int) := by omega
          obtain ⟨y, hy⟩ : ∃ y, T.hv[k]? = some y := ⟨_, List.getElem?_eq_getElem (by rw [HN.out.1]; exact ck)⟩
          obtain ⟨g2, rfl, -, -, -⟩ := hM.oh.blk (i := k) (by rw [HN.out.1]; exact ck)
          obtain ⟨y0, y1, y2, -⟩ := kl_at hM.oh hy
          obtain ⟨W3, hW3⟩ : ∃ W3, wr.alloc (.cells #[.int .i64 y.txn, .string ⟨y.res.toArray⟩, .int .i64 y.mode] 42) = W3 := ⟨_, rfl⟩
          have hb3 : Below wr.heap.size wr W3 := by rw [← hW3]; exact (Below.refl _ _).alloc (Nat.le_refl _) _
          have HY3 := Lib.hid (show BxL W3 wr.heap.size y by rw [← hW3]; exact bxL_new wr y)
          have HX3 := Lib.hid (HX.out.below hb3)
          have HE3 := Lib.hid (HE.out.below hb3)
          obtain ⟨q0, q1, q2⟩ := HY3.out.cells
          obtain ⟨p0, p1, p2⟩ := HX3.out.cells
          have hkw : IntKind.i64.wrap ((k : Int) + 1) = ((k + 1 : Nat) : Int) := by rw [IntWalk.i64_in _ (by omega)]; omega
          have HYY := Lib.hid hy
          clear hy hb3 hM HE HX
          go_upto_region 10 with fail
          try rw [hW3]
          clear hW3 c0 y0 y1 y2
          by_cases e1 : y.res = l.res
          · rw [e1] at q1
            have HE1 := Lib.hid e1
            clear e1
            by_cases e2 : y.txn = l.txn
            · have HD3 := Lib.hid (HD.out.congr (mh_no (l := l) HYY.out (fun c => c.2.1 e2)))
              have e2b : (y.txn == l.txn) = true := by simp [e2]
              go_wp2_with fail
              go_roundw
              case rel => exact ⟨k + 1, E, by omega, by first | rfl | go_num, HE3, HX3, HD3⟩
              case measure => simp [intOf]; omega
            · have e2b : (y.txn == l.txn) = false := by simp [e2]
              have HT := Lib.hid (rtog_any y.mode l.mode W3)
              obtain ⟨tg, htg⟩ : ∃ tg, tgI y.mode l.mode = tg := ⟨_, rfl⟩
              rw [htg] at HT
              have HTG := Lib.hid htg
              have HE9 := Lib.hid e2
              clear htg e2
              go_wp2_with fail
              refine HT.out.mono ?_
              rintro e w4 ⟨rfl, hb4⟩
              have HE4 := Lib.hid (HE3.out.below hb4)
              have HX4 := Lib.hid (HX3.out.below hb4)
              have HY4 := Lib.hid (HY3.out.below hb4)
              clear hb4 HT q0 q1 q2 p0 p1 p2
              cases tg with
              | true =>
                have HD3 := Lib.hid (HD.out.congr (mh_no (l := l) HYY.out (fun c => by rw [HTG.out] at c; exact absurd c.2.2 (by decide))))
                go_wp2_with fail
                go_roundw
                case rel => exact ⟨k + 1, E, by omega, by first | rfl | go_num, HE4, HX4, HD3⟩
                case measure => simp [intOf]; omega
              | false =>
                obtain ⟨q0, -, -⟩ := HY4.out.cells
                obtain ⟨p0, -, -⟩ := HX4.out.cells
                have HLN := Lib.hid (show E.length ≤ 549755813000 from Nat.le_trans (HD.out.few (T := T) (fun e he => by have := HXX.out.2; rw [← this] at he; exact mh_in (List.mem_of_getElem? HXX.out.1) he)) HZ.out.2)
                have HED := Lib.hid (redge_any HE4.out HD.out.srt HLN.out (l.txn, y.txn))
                have HD3 := Lib.hid ((HD.out.ins (l.txn, y.txn)).congr (mh_yes HYY.out HE1.out HE9.out HTG.out))
                go_wp2_with fail
                refine HED.out.mono ?_
                rintro e w5 ⟨v5, rfl, hE5, hb5⟩
                have HE5 := Lib.hid hE5
                have HX5 := Lib.hid (HX4.out.below hb5)
                clear hE5 hb5 HED
                go_wp2_with fail
                go_roundw
                case rel => exact ⟨k + 1, edIns (l.txn, y.txn) E, by omega, by first | rfl | go_num, HE5, HX5, HD3⟩
                case measure => simp [intOf]; omega
          · have hs := ba_ne e1
            have hbe : (y.res == l.res) = false := by simp [e1]
            have HD3 := Lib.hid (HD.out.congr (mh_no (l := l) HYY.out (fun c => e1 c.1)))
            go_wp2_with fail
            go_roundw
            case rel => exact ⟨k + 1, E, by omega, by first | rfl | go_num, HE3, HX3, HD3⟩
            case measure => simp [intOf]; omega
        · obtain rfl : k = nh := by omega
          have cfk : decide ((k : Int) < (k : Int)) = false := by simp
          obtain ⟨-, p1, -⟩ := HX.out.cells
          have HQU := Lib.hid (rqueue_any hM (by rw [HN.out.2]; omega) l.res)
          clear hM
          go_wp2_with fail
          refine HQU.out.mono ?_
          rintro e w4 ⟨vq, rfl, hoq, hb4⟩
          obtain ⟨Q, hQ⟩ : ∃ Q, que T.wt l.res = Q := ⟨_, rfl⟩
          rw [hQ] at hoq
          have HQQ := Lib.hid hQ
          obtain ⟨qa, qc, hqe, -, -⟩ := hoq.sl
          obtain ⟨nq, hnq⟩ : ∃ nq, Q.length = nq := ⟨_, rfl⟩
          rw [hnq] at hqe
          subst hqe
          have HNQ := Lib.hid hnq
          have hnq9 : nq ≤ 1000000 := by
            have h1 := que_le T.wt l.res
            rw [hQ, hnq, HN.out.2] at h1
            omega
          have HE4 := Lib.hid (HE.out.below hb4)
          have HX4 := Lib.hid (HX.out.below hb4)
          have HQ4 := Lib.hid (hoq.le HE.out.bel.size)
          have HD4 := Lib.hid (show EdM (MQ T j l Q 0) E from HD.out.congr (fun e => by rw [← HN.out.1]; exact mq_zero T j l Q e))
          have HA4 := Lib.hid (show ∀ y ∈ Q.take 0, y.txn ≠ l.txn by intro y hy; simp at hy)
          clear hoq hb4 hQ hnq HQU HE HX HD p1
          go_wp2_with fail
          go_loopw [3, 9] (fun v3 i wx => ∃ (d : Nat) (E : List Gv), d ≤ nq ∧ i = .int .i64 d ∧ Hid (EnR KG w wx v3 E) ∧ Hid (BxL wx p l) ∧ Hid (OwR KL wx w.heap.size (.slice qa nq qc) Q) ∧ Hid (EdM (MQ T j l Q d) E) ∧ Hid (∀ y ∈ Q.take d, y.txn ≠ l.txn)) (fun _ i _ => nq - (intOf i).toNat)
          case atStart => exact ⟨0, E, Nat.zero_le _, rfl, HE4, HX4, HQ4, HD4, HA4⟩
          case round =>
            clear HE4 HX4 HQ4 HD4 HA4
            obtain ⟨d, E, hd, rfl, HE, HX, HQ, HD, HA⟩ := hrel
            obtain ⟨p0, -, -⟩ := HX.out.cells
            have HBQ := Lib.hid (fun (nn : Nat) => show Below wr.heap.size wr (wr.drewN nn) from ⟨rfl, rfl, rfl, Nat.le_refl _, fun _ _ => rfl⟩)
            by_cases cd : d < nq
            · have cd1 : (d : Int) < (nq : Int) := by omega
              obtain ⟨y, hy⟩ : ∃ y, Q[d]? = some y := ⟨_, List.getElem?_eq_getElem (by rw [HNQ.out]; exact cd)⟩
              obtain ⟨gq, rfl, -, -, -⟩ := HQ.out.blk (i := d) (by rw [HNQ.out]; exact cd)
              obtain ⟨y0, y1, y2, -⟩ := kl_at HQ.out hy
              have hdw : IntKind.i64.wrap ((d : Int) + 1) = ((d + 1 : Nat) : Int) := by rw [IntWalk.i64_in _ (by omega)]; omega
              have HYY := Lib.hid hy
              clear hy
              go_upto_region 14 with fail
              by_cases e1 : y.txn = l.txn
              · have e1b : (y.txn == l.txn) = true := by simp [e1]
                have HD5 := Lib.hid (show EdM (M0 T (j + 1)) E from HD.out.congr (fun e => by
                  have hl := HXX.out.2
                  have hq := HQQ.out
                  rw [← hl] at hq ⊢
                  rw [← hq]
                  refine mq_end HXX.out.1 (fun z hz => ?_) (fun z hz => ?_) e
                  · rw [hq] at hz; rw [hl]; exact HA.out z hz
                  · rw [hq, HYY.out] at hz; injection hz with hz; rw [← hz, hl]; exact e1))
                rw [e1] at y0
                clear e1
                go_quiet (fail)
                go_wp2_with fail
                go_roundw
                case rel => exact ⟨j + 1, E, by omega, by first | rfl | go_num, Lib.hid (HE.out.below (HBQ.out _)), HD5⟩
                case measure => simp [intOf]; omega
              · have e1b : (y.txn == l.txn) = false := by simp [e1]
                have HLN := Lib.hid (show E.length ≤ 549755813000 from Nat.le_trans (HD.out.few (T := T) (fun e he => by
                  have h1 := HXX.out.2
                  have h2 := HQQ.out
                  rw [← h2, ← h1] at he
                  rw [h1] at he
                  rw [← h1] at he
                  exact mq_in (List.mem_of_getElem? HXX.out.1) he)) HZ.out.2)
                have HED := Lib.hid (fun (w' : World) (hb : Below wr.heap.size wr w') => redge_any (HE.out.below hb) HD.out.srt HLN.out (l.txn, y.txn))
                have HD3 := Lib.hid ((HD.out.ins (l.txn, y.txn)).congr (mq_next HYY.out))
                have HA3 := Lib.hid (show ∀ z ∈ Q.take (d + 1), z.txn ≠ l.txn by
                  rw [List.take_add_one, HYY.out]
                  intro z hz
                  rcases List.mem_append.1 hz with q | q
                  · exact HA.out z q
                  · simp at q; rw [q]; exact e1)
                have HK0 := Lib.hid (fun (w' : World) (hb : Below wr.heap.size wr w') => show Below wr.heap.size wr w' ∧ w'.cell? ⟨p, 0, none⟩ = some (.int .i64 l.txn) ∧ w'.cell? ⟨gq, d * 3, none⟩ = some (.int .i64 y.txn) by
                  obtain ⟨a0, -, -⟩ := (HX.out.below hb).cells
                  obtain ⟨b0, -, -, -⟩ := kl_at (HQ.out.below hb) HYY.out
                  exact ⟨hb, a0, b0⟩)
                clear e1
                go_quiet (fail)
                go_upto_region 16 with fail
                go_region_held3 (fun w' => Below wr.heap.size wr w' ∧ w'.cell? ⟨p, 0, none⟩ = some (.int .i64 l.txn) ∧ w'.cell? ⟨gq, d * 3, none⟩ = some (.int .i64 y.txn))
                  (first | exact HK0.out _ (HBQ.out _) | exact HK0.out _ (HBQ.out _).drew | exact HK0.out _ hbx)
                  (first | (go_at_call 60; refine (HED.out _ (clq (by assumption))).mono ?_; rintro e w1 ⟨v5, rfl, hE5, hbx0⟩; have hbx : Below wr.heap.size wr w1 := clb (by assumption) hbx0))
                all_goals
                  go_wp2_with fail
                  go_roundw
                  case rel => exact ⟨d + 1, edIns (l.txn, y.txn) E, by omega, by first | rfl | go_num, Lib.hid hE5, Lib.hid (HX.out.below hbx), Lib.hid (HQ.out.below hbx), HD3, HA3⟩
                  case measure => simp [intOf]; omega
            · obtain rfl : d = nq := by omega
              have cfd : decide ((d : Int) < (d : Int)) = false := by simp
              have HD5 := Lib.hid (show EdM (M0 T (j + 1)) E from HD.out.congr (fun e => by
                have hl := HXX.out.2
                have hq := HQQ.out
                rw [← hl] at hq ⊢
                rw [← hq]
                refine mq_end HXX.out.1 (fun z hz => ?_) (fun z hz => ?_) e
                · rw [hq] at hz; rw [hl]; exact HA.out z hz
                · rw [hq, List.getElem?_eq_none (Nat.le_of_eq HNQ.out)] at hz; cases hz))
              go_upto_region 14 with fail
              go_quiet (fail)
              go_wp2_with fail
              go_roundw
              case rel => exact ⟨j + 1, E, by omega, by first | rfl | go_num, Lib.hid (HE.out.below (HBQ.out _)), HD5⟩
              case measure => simp [intOf]; omega
    · obtain rfl : j = n := by omega
      have cf : decide ((j : Int) < (j : Int)) = false := by simp
      have HF := Lib.hid (show P (.returned u3) wr by
        rw [← HP.out]
        exact ⟨u3, E, rfl, owg_of HE.out.own, m0_all (by rw [HN.out.2]; exact HD.out), HE.out.bel⟩)
      clear hM
      go_wp2_with fail
      first | exact HF.out | simpa using HF.out

end Go.Proofs.YtelfinhpjokmdaaGreatDoor
