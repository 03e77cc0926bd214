/-
  Texts of mine put together, in build order.
  Conditions: as each declaration says.
-/
import Derived.Lib.SlBytesConst
import Derived.Test.YtmmchhlfbhbigaaDoorMg7
namespace Go.Proofs.YtmmchhlfbhbigaaDoor
set_option maxRecDepth 100000
open Go.RowKit Go.Joins Go.ChangeShapes Go.WideShapes
open Go.MapKept
set_option linter.unusedVariables false
set_option linter.unusedSimpArgs false

theorem made_intsH (n : Nat) : (madeCells (Value.int .i64 0).cells (n * 1)).toList = icells (List.replicate n 0) := by
  unfold madeCells icells
  apply List.ext_getElem?
  intro i
  by_cases h : i < n
  · simp [h, Value.cells, Nat.mod_one]
  · simp [h]
/-- the counts of the first k pages -/
def pcs (ps : List Nat) (k : Nat) : List Int := (ps.take k).map fun p => ((pc16 p : Nat) : Int)
def cntL (ps : List Nat) (k : Nat) : List Int := pcs ps k ++ List.replicate (ps.length - k) 0
theorem pcs_len (ps : List Nat) (k : Nat) (hk : k ≤ ps.length) : (pcs ps k).length = k := by unfold pcs; rw [List.length_map, List.length_take]; omega
theorem cntL_len (ps : List Nat) (k : Nat) (hk : k ≤ ps.length) : (cntL ps k).length = ps.length := by unfold cntL; rw [List.length_append, pcs_len ps k hk, List.length_replicate]; omega
theorem cntL_set (ps : List Nat) (k p : Nat) (hp : ps[k]? = some p) : (cntL ps k).set k ((pc16 p : Nat) : Int) = cntL ps (k + 1) := by
  have hk := (List.getElem?_eq_some_iff.1 hp).1
  have e1 : pcs ps (k + 1) = pcs ps k ++ [((pc16 p : Nat) : Int)] := by unfold pcs; rw [List.take_add_one, hp]; simp
  unfold cntL
  rw [List.set_append_right _ _ (by rw [pcs_len ps k (by omega)]; exact Nat.le_refl _), pcs_len ps k (by omega), Nat.sub_self, e1, show ps.length - k = (ps.length - (k + 1)) + 1 by omega, List.replicate_succ, List.set_cons_zero, List.append_assoc]
  rfl
theorem cntL_end (ps : List Nat) : cntL ps ps.length = ps.map fun p => ((pc16 p : Nat) : Int) := by unfold cntL pcs; simp
set_option maxHeartbeats 1000000 in
theorem hpages_any {B : Nat} {w : World} {F : Bl} {gh : Nat} {s : List Sl} {last : Int} (h : HpX B w F gh s last) (hs : s.length ≤ 4294967296) : Calls Tryd.prog 23 #[.pointer (some ⟨gh, 0, none⟩)] w fun e w' => ∃ v', e = .returned v' ∧ OwI w' w.heap.size v' (hPages s) ∧ Below w.heap.size w w' := by
  generalize hP : (fun (e : Ending) (w' : World) => ∃ v', e = .returned v' ∧ OwI w' w.heap.size v' (hPages s) ∧ Below w.heap.size w w') = P
  have HP := Lib.hid hP
  clear hP
  obtain ⟨b, t, v, ps, o, f, n, es, Ft, h1, h2, h3, h4, rfl⟩ := h
  obtain ⟨-, -, c2, -, -, c5⟩ := h1.cells
  obtain ⟨a, cap, rfl, hml⟩ := h1.own.form
  have HE := Lib.hid (show ∀ v' w', EnI w w' w.heap.size v' (cntL ps ps.length) → P (.returned v') w' by
    intro v' w' he
    rw [← HP.out, pages_rel h2, ← cntL_end]
    exact ⟨v', rfl, he.own, he.bel⟩)
  have hsh := h2.short
  obtain ⟨m, hm⟩ : ∃ m, ps.length = m := ⟨_, rfl⟩
  have HM := Lib.hid hm
  have HH := Lib.hid h1
  have HLT := Lib.hid h2.lt
  have lg := h1.lg
  have hml2 : m ≤ 268435457 := by omega
  rw [hm] at c2 HE
  clear h1 h2 h3 h4 HP c5 hsh hm hml
  obtain ⟨i0, hi0, hz0, hz1, hz2⟩ := info_parts infoI
  go_enter Tryd.func23, Tryd.ntmps23
  go_wp2_with (first | (refine wpList_make_full w rfl _ _ 44 rfl w.heap.size 3 i0 (.int .i64 0) 1 Tryd.underlying44 hi0 hz0 hz1 .i64 .i64 _ _ m rfl rfl rfl rfl (by rw [hz2]; omega) (by unfold maxLen; omega) (Nat.le_refl _) ?_; intro w1 hown1 hgrow1; have HB1 := Lib.hid (show Below w.heap.size w w1 from (Below.refl _ _).grown hgrow1 (Nat.le_refl _) (fun k hk => by cases hk)); have HO1 := Lib.hid hown1; have k2 := (HB1.out.cell lg).trans c2; clear hown1 hgrow1))
  go_loopw [17] (fun i wr => ∃ k : Nat, k ≤ m ∧ i = .int .i64 k ∧ EnI w wr w.heap.size (.slice (some ⟨w.heap.size, 0, none⟩) m m) (cntL ps k)) (fun i _ => m - (intOf i).toNat)
  case atStart =>
    refine ⟨0, Nat.zero_le _, rfl, ⟨⟨?_, by simp⟩, HB1.out, HB1.out.size⟩⟩
    have ho := HO1.out
    rw [made_intsH] at ho
    have e : cntL ps 0 = List.replicate m 0 := by unfold cntL pcs; rw [HM.out]; simp
    rw [e, List.length_replicate]
    exact ho
  case round =>
    obtain ⟨k, hk, rfl, hen⟩ := hrel
    by_cases c : k < m
    · have c1 : (k : Int) < (m : Int) := by omega
      have hz : ps[k]? = some (ps.getD k 0) := getD_at (by rw [HM.out]; exact c)
      obtain ⟨p, hp⟩ : ∃ p, ps.getD k 0 = p := ⟨_, rfl⟩
      have hp6 : p < 65536 := by rw [← hp]; exact HLT.out k
      rw [hp] at hz
      obtain ⟨g, cap', ev, e1, e2, d0, -⟩ := (HH.out.below (hen.bel)).own.at hz
      injection ev with ev1 ev2 ev3
      subst ev1
      have hcl : (cntL ps k).length = m := by rw [cntL_len ps k (by rw [HM.out]; exact hk), HM.out]
      obtain ⟨gv, cv, ee, -, hN⟩ := hen.own.form
      injection ee with ee1 ee2 ee3
      injection ee1 with ee1
      injection ee1 with ee1
      subst ee1
      have hx : (cntL ps k)[k]? = some ((cntL ps k)[k]'(by omega)) := List.getElem?_eq_getElem _
      generalize (cntL ps k)[k]'(by omega) = y at *
      have y5 := hN.c k y hx
      rw [Nat.zero_add] at y5
      have z5 : wr.frozen? ⟨w.heap.size, k, none⟩ = false := by
        obtain ⟨cur, h1⟩ := own_block hen.own.1 rfl
        exact unfrozen_of_block h1 _
      have HO := Lib.hid (ones_any p hp6 wr)
      have HE2 := Lib.hid (show EnI w (wr.setCell ⟨w.heap.size, k, none⟩ (.int .i64 ((pc16 p : Nat) : Int))) w.heap.size (.slice (some ⟨w.heap.size, 0, none⟩) m m) (cntL ps (k + 1)) by
        rw [← cntL_set ps k p hz]
        exact hen.set hcl k _)
      obtain ⟨q, hq⟩ : ∃ q, pc16 p = q := ⟨_, rfl⟩
      rw [hq] at HO HE2
      clear hen hN hx hz hcl e1 e2 ev2 ev3 ee2 ee3 hp hq
      go_wp2_with fail
      refine HO.out.mono ?_
      rintro e w' ⟨rfl, rfl⟩
      go_wp2_with fail
      exact ⟨⟨k + 1, by omega, by simp, HE2.out⟩, by simp [intOf]; omega⟩
    · have c1 : ¬ (k : Int) < (m : Int) := by omega
      obtain rfl : m = k := by omega
      have HF := Lib.hid (HE.out _ _ hen)
      clear hen
      go_wp2_with fail
      exact HF.out

end Go.Proofs.YtmmchhlfbhbigaaDoor

namespace Go.Proofs.YtmmchhlfbhbigaaDoor
set_option maxRecDepth 100000
open Go.RowKit Go.Joins Go.ChangeShapes Go.WideShapes
open Go.MapKept
set_option linter.unusedVariables false
set_option linter.unusedSimpArgs false

theorem int_map : Tryd.prog.underlying 3 = some (.int .i64) := Tryd.underlying3
theorem mapFrm {F : Bl} {w w1 : World} {b : Nat} (hb : F b) (hg : w.grownBy w1 (some b)) : Frm F w w1 := Frm.grown (Frm.refl F w) hg (fun k hk => by injection hk with hk; subst hk; exact .inl hb)
set_option maxHeartbeats 2000000 in
theorem hset_any {B : Nat} {w : World} {F : Bl} {gh : Nat} {s : List Sl} {last : Int} (h : HpX B w F gh s last) (id : Int) {R : Bl} {u : Value} {l : List Nat} (hu : KeyAt w R u l) :
    Calls Tryd.prog 18 #[.pointer (some ⟨gh, 0, none⟩), .int .i64 id, u] w fun e w' =>
      Frm F w w' ∧ ((hFind id s = -1 ∧ e = .returned (.bool false) ∧ HpX B w' F gh s last) ∨ ∃ (k : Nat) (row : List Nat), s[k]? = some (id, row) ∧ hFind id s = (k : Int) ∧ e = .returned (.bool true) ∧ HpX B w' F gh (s.set k (id, l)) last) := by
  generalize hP : (fun (e : Ending) (w' : World) => Frm F w w' ∧ ((hFind id s = -1 ∧ e = .returned (.bool false) ∧ HpX B w' F gh s last) ∨ ∃ (k : Nat) (row : List Nat), s[k]? = some (id, row) ∧ hFind id s = (k : Int) ∧ e = .returned (.bool true) ∧ HpX B w' F gh (s.set k (id, l)) last)) = P
  have HP := Lib.hid hP
  clear hP
  obtain ⟨b, t, v, ps, o, f, n, es, Ft, h1, h2, h3, h4, rfl⟩ := h
  obtain ⟨c0, -, -, -, -, c5⟩ := h1.cells
  have z0 := c5 0
  have lg := h1.lg
  have HM := Lib.hid h1.mp
  have hul := hu.lt
  rcases h3.cases id with ⟨q1, q2, -⟩ | ⟨k, row, q1, q2, q3, q4, q5⟩
  · have HF := Lib.hid (show ∀ w', Below w.heap.size w w' → P (.returned (.bool false)) w' by
      intro w' hb
      rw [← HP.out]
      exact ⟨Frm.of_below hb, .inl ⟨q2, rfl, b, t, v, ps, o, f, n, es, Ft, h1.below hb, h2, h3, h4, rfl⟩⟩)
    obtain ⟨ua, ub, uo, uc, rfl, -, -⟩ := _root_.id hu
    clear h1 h2 h3 h4 c5 q2 HP hu
    go_enter Tryd.func18, Tryd.ntmps18
    go_wp2_with (first | (at_lookup; refine wp_look _ rfl _ _ 66 true rfl 3 74 Tryd.underlying66 Tryd.underlying3 ik_key kz kz_run rfl HM.out id rfl ?_; rw [q1]; simp only [if_true, Option.getD_none, Option.isSome_none]; unfold kz))
    exact HF.out _ ((Below.refl _ _).alloc (Nat.le_refl _) _)
  · have HF := Lib.hid (show ∀ W1 w', Below w.heap.size w W1 → IMap (.int .i64) ik w' b (fun k' => if k' = id then some (kpv l k) else f k') n → W1.grownBy w' (some b) → P (.returned (.bool true)) w' by
      intro W1 w' hb hm hg
      rw [← HP.out]
      refine ⟨(Frm.of_below hb).trans (mapFrm (F := Fh gh b v Ft) (.inr (.inl rfl)) hg) (New.refl _ _), .inr ⟨k, row, q1, q4, rfl, b, t, v, ps, o, _, n, es, Ft, (h1.below hb).map hm hg, ?_, h3.set q1 q2 hul, h4, rfl⟩⟩
      refine ⟨h2.lt, fun j => ?_, h2.full, h2.le, h2.last⟩
      rw [h2.bit]
      unfold occ
      rw [getD_set]
      by_cases c : k = j ∧ k < s.length
      · rw [if_pos c, ← c.1, List.getD_eq_getElem?_getD, q1]; rfl
      · rw [if_neg c])
    have HU := Lib.hid (fun (wx : World) (hb : Below w.heap.size w wx) => (hu.step (Frm.of_below (F := fun _ => False) hb) (fun _ _ h => h)).str)
    obtain ⟨x, hx⟩ : ∃ x, k / 16 = x := ⟨_, rfl⟩
    obtain ⟨y, hy⟩ : ∃ y, k % 16 = y := ⟨_, rfl⟩
    unfold kpv at q5 HF
    rw [hx, hy] at q5 HF
    obtain ⟨W1, hW1⟩ : ∃ W1, w.alloc (.cells #[.string (strB row), .int .i64 (x : Int), .int .i64 (y : Int)] 74) = W1 := ⟨_, rfl⟩
    have hb1 : Below w.heap.size w W1 := by rw [← hW1]; exact (Below.refl _ _).alloc (Nat.le_refl _) _
    have hn1 : W1.heap[w.heap.size]? = some (.cells #[.string (strB row), .int .i64 (x : Int), .int .i64 (y : Int)] 74 (0, 0)) := by rw [← hW1]; exact heap_alloc_new w _
    have hcv := HU.out W1 hb1
    obtain ⟨ua, ub, uo, uc, rfl, -, -⟩ := _root_.id hu
    have d0 : W1.cell? ⟨w.heap.size, 0, none⟩ = some (.string (strB row)) := by rw [cell_of_block hn1]; rfl
    have f0 := unfrozen_of_block hn1 0
    obtain ⟨W2, hW2⟩ : ∃ W2, W1.setCell ⟨w.heap.size, 0, none⟩ (.string (strB l)) = W2 := ⟨_, rfl⟩
    have hb2 : Below w.heap.size w W2 := by rw [← hW2]; exact Below.setCell hb1 (Nat.le_refl w.heap.size) _
    have hn2 : W2.heap[w.heap.size]? = some (.cells #[.string (strB l), .int .i64 (x : Int), .int .i64 (y : Int)] 74 (0, 0)) := by rw [← hW2, block_setCell hn1]; rfl
    have e0 : W2.cell? ⟨w.heap.size, 0, none⟩ = some (.string (strB l)) := by rw [cell_of_block hn2]; rfl
    have e1 : W2.cell? ⟨w.heap.size, 1, none⟩ = some (.int .i64 (x : Int)) := by rw [cell_of_block hn2]; rfl
    have e2 : W2.cell? ⟨w.heap.size, 2, none⟩ = some (.int .i64 (y : Int)) := by rw [cell_of_block hn2]; rfl
    have k0 := (hb2.cell lg).trans c0
    have HB2 := Lib.hid hb2
    have HM2 := Lib.hid (HM.out.below (hb2.drew))
    have hsome : (f id).isSome = true := by rw [q5]; rfl
    obtain ⟨w5, hrun, hm5, hg5, -⟩ := HM2.out.put (P := Tryd.prog) (t := 66) Tryd.underlying66 Tryd.underlying3 ik_key ik_inj id (.agg #[.string (strB l), .int .i64 (x : Int), .int .i64 (y : Int)])
    rw [if_pos hsome] at hm5
    have HX := Lib.hid (HF.out _ w5 (HB2.out.drew) hm5 hg5)
    unfold ik at hrun
    clear hm5 hg5
    clear h1 h2 h3 h4 c5 q1 q2 q3 q4 HP hb1 hb2 hx hy hn1 hn2 hu
    go_enter Tryd.func18, Tryd.ntmps18
    go_upto_region 3 with (first | (at_lookup; refine wp_look _ rfl _ _ 66 true rfl 3 74 Tryd.underlying66 Tryd.underlying3 ik_key kz kz_run rfl HM.out id rfl ?_; rw [q5]; simp only [if_true, Option.getD_some, Option.isSome_some]))
    go_upto_region 4 with fail
    go_region_with fail
    all_goals
      go_wp2_with fail
      exact HX.out

end Go.Proofs.YtmmchhlfbhbigaaDoor

namespace Go.Proofs.YtmmchhlfbhbigaaDoor
set_option maxRecDepth 100000
open Go.RowKit Go.Joins Go.ChangeShapes Go.WideShapes
open Go.MapKept
set_option linter.unusedVariables false
set_option linter.unusedSimpArgs false

theorem hs_len (s : List Sl) : hLen s ≤ s.length := hLen_le s
set_option maxHeartbeats 2000000 in
theorem hlay_any {B : Nat} {w : World} {gh b t : Nat} {v : Value} {ps : List Nat} {o : Nat} {f : Int → Option Value} {n : Nat} {es : List Ent} {Ft : Bl} {last last' : Int} {s : List Sl} (h1 : HpW B w gh b t v ps o f n es Ft last') (h2 : PgRel ps o s) (h3 : HpRel s last f es n)
    (h4 : 0 ≤ last) (hs : s.length ≤ 4294967296) {id : Int} (i1 : 0 < id) (i2 : id ≤ last') (i3 : last ≤ last') (i4 : last' ≤ 4294967297) (hn : f id = none) {R : Bl} {u : Value} {l : List Nat} (hu : KeyAt w R u l) (hR : ∀ k, R k → ¬ Fh gh b v Ft k) :
    Calls Tryd.prog 35 #[.pointer (some ⟨gh, 0, none⟩), .int .i64 id, u] w fun e w' => e = .returned (.tuple #[]) ∧ ∃ F', Frm (Fh gh b v Ft) w w' ∧ New w (Fh gh b v Ft) F' ∧ HpX B w' F' gh (hLay id l s) last' := by
  generalize hP : (fun (e : Ending) (w' : World) => e = .returned (.tuple #[]) ∧ ∃ F', Frm (Fh gh b v Ft) w w' ∧ New w (Fh gh b v Ft) F' ∧ HpX B w' F' gh (hLay id l s) last') = P
  have HP := Lib.hid hP
  clear hP
  have hul := hu.lt
  have hsh := h2.short
  have HTK := Lib.hid (htake_any h1 h2 (by omega))
  have hen : es.length ≤ 4294967296 := by rw [h3.len, h3.hn]; have := hLen_le s; omega
  have HTR := Lib.hid (fun (w1 : World) (v1 : Value) (ps1 : List Nat) (o1 : Nat) (hf : Frm (fun k => k = gh ∨ v.ownBlock = some k) w w1) (hw : HpW B w1 gh b t v1 ps1 o1 f n es Ft last') =>
    And.intro hw (hu.step hf (fun k hk hc => hR k hk (hc.imp (fun h => h) (fun h => .inr (.inl h))))))
  obtain ⟨ua, ub, uo, uc, rfl, -, -⟩ := _root_.id hu
  have H1 := Lib.hid h1
  have H2 := Lib.hid h2
  have H3 := Lib.hid h3
  clear h1 h2 h3 hu hR hsh
  go_enter Tryd.func35, Tryd.ntmps35
  go_wp2_with fail
  refine HTK.out.mono ?_
  rintro e w1 ⟨o1, v1, rfl, g1, g2, g3, g4, g5, g6⟩
  obtain ⟨t1, t2, t3⟩ := take_rel H2.out (o' := o1) g1 g2 g3
  obtain ⟨x, hx⟩ : ∃ x, Lib.ctz 64 (notP (ps.getD o1 0)) = x := ⟨_, rfl⟩
  rw [hx] at t1 t2 t3 g4
  obtain ⟨ps1, hps1⟩ : ∃ ps1, takeP ps o1 x = ps1 := ⟨_, rfl⟩
  rw [hps1] at g4 t3
  have hkv : kpv l (hFreeN s 0) = .agg #[.string (strB l), .int .i64 (o1 : Int), .int .i64 (x : Int)] := by
    unfold kpv
    rw [t2, show (o1 * 16 + x) / 16 = o1 by omega, show (o1 * 16 + x) % 16 = x by omega]
  have T3 := Lib.hid (t3 id l (by omega))
  have hrl := H3.out.lay i1 i2 i3 h4 (show InI last' by unfold InI; omega) hn hul
  rw [hkv] at hrl
  have HRL := Lib.hid hrl
  obtain ⟨-, hku⟩ := HTR.out w1 v1 ps1 o1 g5 g4
  have hcv := (hku.step (Frm.of_below (F := fun _ => False) ((Below.refl _ _).drew)) (fun _ _ h => h)).str
  obtain ⟨w5, hrun, hm5, hg5, -⟩ := (g4.mp.below ((Below.refl _ _).drew)).put (P := Tryd.prog) (t := 66) Tryd.underlying66 Tryd.underlying3 ik_key ik_inj id (.agg #[.string (strB l), .int .i64 (o1 : Int), .int .i64 (x : Int)])
  rw [if_neg (by rw [hn]; decide)] at hm5
  unfold ik at hrun
  have G5 := Lib.hid (show HpW B w5 gh b t v1 ps1 o1 _ (n + 1) es Ft last' from (g4.drew).map hm5 hg5)
  have F5 := Lib.hid (show Frm (Fh gh b v Ft) w w5 from ((g5.mono (fun k hk => hk.imp (fun h => h) (fun h => .inr (.inl h)))).drew).trans (mapFrm (F := Fh gh b v Ft) (.inr (.inl rfl)) hg5) (New.refl _ _))
  have G6 := Lib.hid g6
  obtain ⟨k0, -, -, -, -, -⟩ := g4.cells
  obtain ⟨-, k1, -, -, -, -⟩ := G5.out.cells
  have lg5 := G5.out.lg
  clear g1 g2 g3 g4 g5 g6 t1 t2 t3 hkv hrl hku hm5 hg5 hps1
  rw [hx]
  clear hx
  have HO := Lib.hid (okey_any id (show InI id by unfold InI; omega))
  have HPT := Lib.hid (fun (wx : World) (hb : Below w5.heap.size w5 wx) (u2 : Value) (hu2 : KeyAt wx (fun _ => True) u2 (kOf id)) => tput_any B wx Ft t es (G5.out.tr.below hb) hen _ u2 _ hu2 id)
  have HFIN := Lib.hid (show ∀ w6 w7 Ft1, Below w5.heap.size w5 w6 → Frm Ft w6 w7 → New w6 Ft Ft1 → TrX B w7 Ft1 t (ePut es (kOf id) id) → P (.returned (.tuple #[])) w7 by
    intro w6 w7 Ft1 hb hf hn7 ht
    rw [← HP.out]
    have hs6 := Nat.le_trans F5.out.size hb.size
    refine ⟨rfl, Fh gh b v1 Ft1, (F5.out.step hb).trans (F1 := Ft) hf (fun k hk => .inl (.inr (.inr (.inr hk)))), fun k hk => ?_, b, t, v1, ps1, o1, _, n + 1, _, Ft1, (G5.out.below hb).order hf hn7 ht, T3.out, HRL.out, by omega, rfl⟩
    rcases hk with q | q | q | q
    · exact .inl (.inl q)
    · exact .inl (.inr (.inl q))
    · exact (G6.out k q).imp (fun h => .inr (.inr (.inl h))) (fun h => h)
    · exact (hn7 k q).imp (fun h => .inr (.inr (.inr h))) (fun h => by omega))
  clear F5 G6 T3 HRL HTR H1 H2 H3 HP
  go_upto_region 1 with fail
  go_region_with fail
  all_goals
    go_upto_region 2 with fail
    go_region_with (first
      | (go_at_call 38; refine (HO.out w5.drew.drew).mono ?_; rintro e w6 ⟨u2, rfl, hu2, hb⟩; have B6 := Lib.hid (stepB (((Below.refl _ _).drew).drew) hb); have HU2 := Lib.hid (hu2.mono (fun _ _ => trivial)); obtain ⟨va, vb, vo, vc, rfl, -, -⟩ := _root_.id hu2; have k6 := (B6.out.cell lg5).trans k1; clear hu2 hb)
      | (go_at_call 38; refine (HO.out w5.drew).mono ?_; rintro e w6 ⟨u2, rfl, hu2, hb⟩; have B6 := Lib.hid (stepB ((Below.refl _ _).drew) hb); have HU2 := Lib.hid (hu2.mono (fun _ _ => trivial)); obtain ⟨va, vb, vo, vc, rfl, -, -⟩ := _root_.id hu2; have k6 := (B6.out.cell lg5).trans k1; clear hu2 hb)
      | (go_at_call 65; refine (HPT.out w6 B6.out _ HU2.out).mono ?_; rintro e w7 ⟨rfl, Ft1, hf, hn7, ht⟩; have HX := Lib.hid (HFIN.out w6 w7 Ft1 B6.out hf hn7 ht); clear hf hn7 ht))
    all_goals
      go_wp2_with fail
      exact bodyPost_ret (v := .tuple #[]) (by simp [results, Tryd.results35, go_sem]) rfl HX.out

end Go.Proofs.YtmmchhlfbhbigaaDoor

namespace Go.Proofs.YtmmchhlfbhbigaaDoor
set_option maxRecDepth 100000
open Go.RowKit Go.Joins Go.ChangeShapes Go.WideShapes
open Go.MapKept
set_option linter.unusedVariables false
set_option linter.unusedSimpArgs false

set_option maxHeartbeats 2000000 in
theorem hadd_any {B : Nat} {w : World} {F : Bl} {gh : Nat} {s : List Sl} {last : Int} (h : HpX B w F gh s last) (hs : s.length ≤ 4294967296) (hl : last ≤ 4294967296) {R : Bl} {u : Value} {l : List Nat} (hu : KeyAt w R u l) (hR : ∀ k, R k → ¬ F k) :
    Calls Tryd.prog 11 #[.pointer (some ⟨gh, 0, none⟩), u] w fun e w' => e = .returned (.int .i64 (last + 1)) ∧ ∃ F', Frm F w w' ∧ New w F F' ∧ HpX B w' F' gh (hLay (last + 1) l s) (last + 1) := by
  generalize hP : (fun (e : Ending) (w' : World) => e = .returned (.int .i64 (last + 1)) ∧ ∃ F', Frm F w w' ∧ New w F F' ∧ HpX B w' F' gh (hLay (last + 1) l s) (last + 1)) = P
  have HP := Lib.hid hP
  clear hP
  obtain ⟨b, t, v, ps, o, f, n, es, Ft, h1, h2, h3, h4, rfl⟩ := h
  obtain ⟨-, -, -, -, c4, c5⟩ := h1.cells
  have z4 := c5 4
  have lg := h1.lg
  have e1 : IntKind.i64.wrap (last + 1) = last + 1 := by rw [IntKind.wrap_i64]; omega
  have hnone : f (last + 1) = none := by
    rcases h3.cases (last + 1) with ⟨q, -⟩ | ⟨k, row, -, -, q, -⟩
    · exact q
    · omega
  obtain ⟨w1, hw1⟩ : ∃ w1, w.setCell ⟨gh, 4, none⟩ (.int .i64 (last + 1)) = w1 := ⟨_, rfl⟩
  have hf1 : Frm (fun k => k = gh) w w1 := by rw [← hw1]; exact setg_frm w gh 4 _
  have g1 : HpW B w1 gh b t v ps o f n es Ft (last + 1) := by rw [← hw1]; exact h1.setLast (last + 1)
  have d4 := g1.cells.2.2.2.2.1
  have hu1 : KeyAt w1 R u l := hu.step hf1 (fun k hk e => hR k hk (.inl e))
  have HL := Lib.hid (hlay_any g1 h2 h3 h4 hs (show 0 < last + 1 by omega) (Int.le_refl _) (by omega) (by omega) hnone hu1 hR)
  have HFIN := Lib.hid (show ∀ w2 F', Frm (Fh gh b v Ft) w1 w2 → New w1 (Fh gh b v Ft) F' → HpX B w2 F' gh (hLay (last + 1) l s) (last + 1) → P (.returned (.int .i64 (last + 1))) w2 by
    intro w2 F' hf hn hx
    rw [← HP.out]
    have := hf1.size
    exact ⟨rfl, F', (hf1.mono (fun k hk => .inl hk)).trans hf (fun k hk => .inl hk), fun k hk => (hn k hk).imp (fun h => h) (fun h => by omega), hx⟩)
  obtain ⟨ua, ub, uo, uc, rfl, -, -⟩ := _root_.id hu
  clear h1 h2 h3 h4 c5 hu hu1 g1 hf1 HP hnone
  go_enter Tryd.func11, Tryd.ntmps11
  go_wp2_with fail
  refine HL.out.mono ?_
  rintro e w2 ⟨rfl, F', hf, hn, hx⟩
  obtain ⟨b', t', v', ps', o', f', n', es', Ft', g1, -⟩ := _root_.id hx
  have c4' := g1.cells.2.2.2.2.1
  have HX := Lib.hid (HFIN.out w2 F' hf hn hx)
  clear hf hn hx g1 c4 d4 z4
  go_wp2_with fail
  exact HX.out

set_option maxHeartbeats 2000000 in
theorem hback_any {B : Nat} {w : World} {F : Bl} {gh : Nat} {s : List Sl} {last : Int} (h : HpX B w F gh s last) (hs : s.length ≤ 4294967296) (hl : last ≤ 4294967296) (id : Int) {R : Bl} {u : Value} {l : List Nat} (hu : KeyAt w R u l) (hR : ∀ k, R k → ¬ F k) :
    Calls Tryd.prog 15 #[.pointer (some ⟨gh, 0, none⟩), .int .i64 id, u] w fun e w' => e = .returned (.bool (decide (1 ≤ id ∧ id ≤ last ∧ hFind id s < 0))) ∧ ∃ F', Frm F w w' ∧ New w F F' ∧ HpX B w' F' gh (if 1 ≤ id ∧ id ≤ last ∧ hFind id s < 0 then hLay id l s else s) last := by
  generalize hP : (fun (e : Ending) (w' : World) => e = .returned (.bool (decide (1 ≤ id ∧ id ≤ last ∧ hFind id s < 0))) ∧ ∃ F', Frm F w w' ∧ New w F F' ∧ HpX B w' F' gh (if 1 ≤ id ∧ id ≤ last ∧ hFind id s < 0 then hLay id l s else s) last) = P
  have HP := Lib.hid hP
  clear hP
  obtain ⟨b, t, v, ps, o, f, n, es, Ft, h1, h2, h3, h4, rfl⟩ := h
  obtain ⟨c0, -, -, -, c4, -⟩ := h1.cells
  have lg := h1.lg
  have HM := Lib.hid h1.mp
  have HNO := Lib.hid (show ¬ (1 ≤ id ∧ id ≤ last ∧ hFind id s < 0) → ∀ w', Below w.heap.size w w' → P (.returned (.bool false)) w' by
    intro hc w' hb
    rw [← HP.out, if_neg hc, decide_eq_false hc]
    exact ⟨rfl, _, Frm.of_below hb, New.refl _ _, b, t, v, ps, o, f, n, es, Ft, h1.below hb, h2, h3, h4, rfl⟩)
  obtain ⟨ua, ub, uo, uc, eu, -, -⟩ := _root_.id hu
  rcases h3.cases id with ⟨q1, q2, -⟩ | ⟨k, row, q1, q2, q3, q4, q5⟩
  · by_cases p1 : id < 1
    · have HN := Lib.hid (HNO.out (by omega))
      subst eu
      clear h1 h2 h3 h4 q2 HP HNO hu
      go_enter Tryd.func15, Tryd.ntmps15
      go_wp2_with (first | (at_lookup; refine wp_look _ rfl _ _ 66 true rfl 3 74 Tryd.underlying66 Tryd.underlying3 ik_key kz kz_run rfl HM.out id rfl ?_; rw [q1]; simp only [if_true, Option.getD_none, Option.isSome_none]; unfold kz))
      exact HN.out _ ((Below.refl _ _).alloc (Nat.le_refl _) _)
    · have p1' : decide (id < 1) = false := by simpa using p1
      by_cases p2 : last < id
      · have HN := Lib.hid (HNO.out (by omega))
        subst eu
        clear h1 h2 h3 h4 q2 HP HNO hu
        go_enter Tryd.func15, Tryd.ntmps15
        go_wp2_with (first | (at_lookup; refine wp_look _ rfl _ _ 66 true rfl 3 74 Tryd.underlying66 Tryd.underlying3 ik_key kz kz_run rfl HM.out id rfl ?_; rw [q1]; simp only [if_true, Option.getD_none, Option.isSome_none]; unfold kz))
        exact HN.out _ ((Below.refl _ _).alloc (Nat.le_refl _) _)
      · have p2' : decide (last < id) = false := by simpa using p2
        have hc : 1 ≤ id ∧ id ≤ last ∧ hFind id s < 0 := ⟨by omega, by omega, by omega⟩
        obtain ⟨w1, hw1⟩ : ∃ w1, w.alloc (.cells #[.string ⟨#[]⟩, .int .i64 0, .int .i64 0] 74) = w1 := ⟨_, rfl⟩
        have hb1 : Below w.heap.size w w1 := by rw [← hw1]; exact (Below.refl _ _).alloc (Nat.le_refl _) _
        have g1 := h1.below hb1
        have HL := Lib.hid (hlay_any g1 h2 h3 h4 hs (show 0 < id by omega) (show id ≤ last by omega) (Int.le_refl _) (by omega) q1 (hu.step (Frm.of_below (F := fun _ => False) hb1) (fun _ _ h => h)) hR)
        have HFIN := Lib.hid (show ∀ w2 F', Frm (Fh gh b v Ft) w1 w2 → New w1 (Fh gh b v Ft) F' → HpX B w2 F' gh (hLay id l s) last → P (.returned (.bool true)) w2 by
          intro w2 F' hf hn hx
          rw [← HP.out, if_pos hc, decide_eq_true hc]
          have := hb1.size
          exact ⟨rfl, F', (Frm.of_below hb1).trans hf (New.refl _ _), fun k hk => (hn k hk).imp (fun h => h) (fun h => by omega), hx⟩)
        have d4 := g1.cells.2.2.2.2.1
        subst eu
        subst hw1
        clear h1 h2 h3 h4 q2 HP HNO hu hb1 g1 hc
        go_enter Tryd.func15, Tryd.ntmps15
        go_wp2_with (first | (at_lookup; refine wp_look _ rfl _ _ 66 true rfl 3 74 Tryd.underlying66 Tryd.underlying3 ik_key kz kz_run rfl HM.out id rfl ?_; rw [q1]; simp only [if_true, Option.getD_none, Option.isSome_none]; unfold kz))
        refine HL.out.mono ?_
        rintro e w2 ⟨rfl, F', hf, hn, hx⟩
        have HX := Lib.hid (HFIN.out w2 F' hf hn hx)
        clear hf hn hx c4 d4
        go_wp2_with fail
        exact HX.out
  · have HN := Lib.hid (HNO.out (by omega))
    obtain ⟨x, hx⟩ : ∃ x, k / 16 = x := ⟨_, rfl⟩
    obtain ⟨y, hy⟩ : ∃ y, k % 16 = y := ⟨_, rfl⟩
    unfold kpv at q5
    rw [hx, hy] at q5
    subst eu
    clear h1 h2 h3 h4 q1 q2 q3 q4 HP HNO hu hx hy
    go_enter Tryd.func15, Tryd.ntmps15
    go_wp2_with (first | (at_lookup; refine wp_look _ rfl _ _ 66 true rfl 3 74 Tryd.underlying66 Tryd.underlying3 ik_key kz kz_run rfl HM.out id rfl ?_; rw [q5]; simp only [if_true, Option.getD_some, Option.isSome_some]))
    exact HN.out _ ((Below.refl _ _).alloc (Nat.le_refl _) _)

end Go.Proofs.YtmmchhlfbhbigaaDoor

namespace Go.Proofs.YtmmchhlfbhbigaaDoor
set_option maxRecDepth 100000
open Go.RowKit Go.Joins Go.ChangeShapes Go.WideShapes
open Go.MapKept
set_option linter.unusedVariables false
set_option linter.unusedSimpArgs false

set_option maxHeartbeats 2000000 in
theorem hdrop_any {B : Nat} {w : World} {F : Bl} {gh : Nat} {s : List Sl} {last : Int} (h : HpX B w F gh s last) (hs : s.length ≤ 4294967296) (hl : last ≤ 4294967296) (id : Int) :
    Calls Tryd.prog 13 #[.pointer (some ⟨gh, 0, none⟩), .int .i64 id] w fun e w' => e = .returned (.bool (decide (0 ≤ hFind id s))) ∧ ∃ F', Frm F w w' ∧ New w F F' ∧ HpX B w' F' gh (hDrop id s) last := by
  generalize hP : (fun (e : Ending) (w' : World) => e = .returned (.bool (decide (0 ≤ hFind id s))) ∧ ∃ F', Frm F w w' ∧ New w F F' ∧ HpX B w' F' gh (hDrop id s) last) = P
  have HP := Lib.hid hP
  clear hP
  obtain ⟨b, t, v, ps, o, f, n, es, Ft, h1, h2, h3, h4, rfl⟩ := h
  obtain ⟨c0, -, -, -, -, -⟩ := h1.cells
  have lg := h1.lg
  have HM := Lib.hid h1.mp
  rcases h3.cases id with ⟨q1, q2, -⟩ | ⟨k, row, q1, q2, q3, q4, q5⟩
  · have HN := Lib.hid (show ∀ w', Below w.heap.size w w' → P (.returned (.bool false)) w' by
      intro w' hb
      rw [← HP.out, q2, decide_eq_false (by omega)]
      have e : hDrop id s = s := by unfold hDrop; rw [if_pos (by omega)]
      rw [e]
      exact ⟨rfl, _, Frm.of_below hb, New.refl _ _, b, t, v, ps, o, f, n, es, Ft, h1.below hb, h2, h3, h4, rfl⟩)
    clear h1 h2 h3 h4 q2 HP
    go_enter Tryd.func13, Tryd.ntmps13
    go_wp2_with (first | (at_lookup; refine wp_look _ rfl _ _ 66 true rfl 3 74 Tryd.underlying66 Tryd.underlying3 ik_key kz kz_run rfl HM.out id rfl ?_; rw [q1]; simp only [if_true, Option.getD_none, Option.isSome_none]; unfold kz))
    exact HN.out _ ((Below.refl _ _).alloc (Nat.le_refl _) _)
  · have hdr : hDrop id s = s.set k (0, []) := by unfold hDrop; rw [if_neg (by omega), q4]; rfl
    have hocc : occ s k = true := by unfold occ; rw [List.getD_eq_getElem?_getD, q1]; simp; omega
    have hen : es.length ≤ 4294967296 := by rw [h3.len, h3.hn]; have := hLen_le s; omega
    have hsh := h2.short
    obtain ⟨htr, hrel⟩ := h3.drop h1.tr.srt (show InI last by unfold InI; omega) q1 q2
    have HREL := Lib.hid hrel
    obtain ⟨w1, hw1⟩ : ∃ w1, w.alloc (.cells #[.string (strB row), .int .i64 ((k / 16 : Nat) : Int), .int .i64 ((k % 16 : Nat) : Int)] 74) = w1 := ⟨_, rfl⟩
    have hb1 : Below w.heap.size w w1 := by rw [← hw1]; exact (Below.refl _ _).alloc (Nat.le_refl _) _
    have hn1 : w1.heap[w.heap.size]? = some (.cells #[.string (strB row), .int .i64 ((k / 16 : Nat) : Int), .int .i64 ((k % 16 : Nat) : Int)] 74 (0, 0)) := by rw [← hw1]; exact heap_alloc_new w _
    have g1 := h1.below hb1
    obtain ⟨w2, hrun, hm2, hg2, hs2⟩ := g1.mp.del (P := Tryd.prog) (t := 66) (ty := 0) Tryd.underlying66 Tryd.underlying3 ik_key ik_inj id
    rw [if_pos (by rw [q5]; rfl)] at hm2
    have g2 := g1.map hm2 hg2
    have f2 : Frm (Fh gh b v Ft) w w2 := (Frm.of_below hb1).trans (mapFrm (F := Fh gh b v Ft) (.inr (.inl rfl)) hg2) (New.refl _ _)
    have hn2 : w2.heap[w.heap.size]? = some (.cells #[.string (strB row), .int .i64 ((k / 16 : Nat) : Int), .int .i64 ((k % 16 : Nat) : Int)] 74 (0, 0)) := (hg2.block _ (Array.getElem?_eq_some_iff.1 hn1).1 (fun e => by injection e with e; have := h1.mp.lt; omega)).trans hn1
    unfold ik at hrun
    have HO := Lib.hid (okey_any id (show InI id by unfold InI; omega))
    have HDT := Lib.hid (fun (wx : World) (hb : Below w2.heap.size w2 wx) (u2 : Value) (hu2 : KeyAt wx (fun _ => True) u2 (kOf id)) => tdrop_any B wx Ft t es (g2.tr.below hb) hen _ u2 _ hu2)
    have HFR := Lib.hid (show ∀ w6 w7 Ft1, Below w2.heap.size w2 w6 → Frm Ft w6 w7 → New w6 Ft Ft1 → TrX B w7 Ft1 t (eDel es (kOf id)) → w7.heap[w.heap.size]? = some (.cells #[.string (strB row), .int .i64 ((k / 16 : Nat) : Int), .int .i64 ((k % 16 : Nat) : Int)] 74 (0, 0)) ∧
        Calls Tryd.prog 39 #[.pointer (some ⟨gh, 0, none⟩), .int .i64 ((k / 16 : Nat) : Int), .int .i64 ((k % 16 : Nat) : Int)] w7 fun e w8 => e = .returned (.tuple #[]) ∧ P (.returned (.bool true)) w8 ∧ w8.heap[w.heap.size]? = w7.heap[w.heap.size]? by
      intro w6 w7 Ft1 hb hf hn7 ht
      have hs6 := Nat.le_trans f2.size hb.size
      have g7 := (g2.below hb).order hf hn7 ht
      have hlt : w.heap.size < w2.heap.size := (Array.getElem?_eq_some_iff.1 hn2).1
      refine ⟨(hf.heap (Nat.lt_of_lt_of_le hlt hb.size) (fun hc => by have := (h1.tr.low _ hc).2; omega)).trans ((hb.block _ hlt).trans hn2), (hfree_any g7 h2 (by omega) hocc).mono ?_⟩
      rintro e w8 ⟨rfl, o', v', ps', r1, r2, r3, r4⟩
      refine ⟨rfl, ?_, r3.heap (by have := hf.size; have := hb.size; omega) ?_⟩
      · rw [← HP.out, q4, decide_eq_true (by omega), hdr]
        have hf7 : Frm (Fh gh b v Ft) w w7 := (f2.step hb).trans (F1 := Ft) hf (fun k hk => .inl (.inr (.inr (.inr hk))))
        refine ⟨rfl, Fh gh b v' Ft1, hf7.trans (F1 := fun k => k = gh ∨ v.ownBlock = some k) r3 (fun k hk => .inl (hk.imp (fun h => h) (fun h => .inr (.inl h)))), fun k hk => ?_, b, t, v', ps', o', _, n - 1, _, Ft1, r2, r1, HREL.out, h4, rfl⟩
        rcases hk with q | q | q | q
        · exact .inl (.inl q)
        · exact .inl (.inr (.inl q))
        · exact .inl (.inr (.inr (.inl (by rw [← r4]; exact q))))
        · exact (hn7 k q).imp (fun h => .inr (.inr (.inr h))) (fun h => by omega)
      · rintro (e | e)
        · have := h1.lg; omega
        · have := (h1.low _ (.inr (.inr (.inl e)))).2; omega)
    have k0 := g1.cells.1
    have k1 := g2.cells.2.1
    have lg2 := g2.lg
    have lt2 : w.heap.size < w2.heap.size := (Array.getElem?_eq_some_iff.1 hn2).1
    obtain ⟨x, hx⟩ : ∃ x, k / 16 = x := ⟨_, rfl⟩
    obtain ⟨y, hy⟩ : ∃ y, k % 16 = y := ⟨_, rfl⟩
    unfold kpv at q5
    rw [hx, hy] at q5 hw1 HFR
    clear h1 h2 h3 h4 HP hen hsh hdr hocc htr hrel hb1 hn1 g1 hm2 hg2 g2 f2 hn2 hs2 q1 q2 q3 q4 hx hy
    go_enter Tryd.func13, Tryd.ntmps13
    go_upto_region 3 with (first | (at_lookup; refine wp_look _ rfl _ _ 66 true rfl 3 74 Tryd.underlying66 Tryd.underlying3 ik_key kz kz_run rfl HM.out id rfl ?_; rw [q5]; simp only [if_true, Option.getD_some, Option.isSome_some]))
    go_upto_region 4 with fail
    go_region_with (first
      | (go_at_call 38; refine (HO.out w2.drew).mono ?_; rintro e w6 ⟨u2, rfl, hu2, hb⟩; have B6 := Lib.hid (stepB ((Below.refl _ _).drew) hb); have HU2 := Lib.hid (hu2.mono (fun _ _ => trivial)); obtain ⟨va, vb, vo, vc, rfl, -, -⟩ := _root_.id hu2; have k6 := (B6.out.cell lg2).trans k1; clear hu2 hb)
      | (go_at_call 37; refine (HDT.out w6 B6.out _ HU2.out).mono ?_; rintro e w7 ⟨rfl, Ft1, hf, hn7, ht⟩; obtain ⟨hq7, hc7⟩ := HFR.out w6 w7 Ft1 B6.out hf hn7 ht; have HC7 := Lib.hid hc7; have HQ7 := Lib.hid hq7; clear hf hn7 ht hq7 hc7))
    all_goals
      have y1 : w7.cell? ⟨w.heap.size, 1, none⟩ = some (.int .i64 (x : Int)) := by rw [cell_of_block HQ7.out]; rfl
      have y2 : w7.cell? ⟨w.heap.size, 2, none⟩ = some (.int .i64 (y : Int)) := by rw [cell_of_block HQ7.out]; rfl
      go_wp2_with fail
      refine HC7.out.mono ?_
      rintro e w8 ⟨rfl, hp8, -⟩
      have HP8 := Lib.hid hp8
      clear hp8
      go_wp2_with fail
      exact HP8.out

end Go.Proofs.YtmmchhlfbhbigaaDoor

namespace Go.Proofs.YtmmchhlfbhbigaaDoor
set_option maxRecDepth 100000
open Go.RowKit Go.Joins Go.ChangeShapes Go.WideShapes
set_option linter.unusedVariables false
set_option linter.unusedSimpArgs false

section
variable {W w : World} {gh : Nat} {s : List Sl} {last : Int} {K : Bl}
theorem hc_new (w : World) (hT : TabT w) : Calls Tryd.prog 9 #[] w fun e w' => ∃ gh, e = .returned (.pointer (some ⟨gh, 0, none⟩)) ∧ Hc w w' gh [] 0 (fun _ => False) ∧ Below w.heap.size w w' := by
  refine (hnew_any w hT).mono ?_
  rintro e w' ⟨gh, F, rfl, h1, hb⟩
  exact ⟨gh, rfl, ⟨F, h1, fun _ h => h.elim, hb⟩, hb⟩
theorem hc_add (h : Hc W w gh s last K) (hs : s.length ≤ 4294967296) (hl : last ≤ 4294967296) {R : Bl} {u : Value} {l : List Nat} (hu : KeyAt w R u l) (hR : ∀ k, R k → K k ∨ k < W.heap.size) :
    Calls Tryd.prog 11 #[.pointer (some ⟨gh, 0, none⟩), u] w fun e w' => e = .returned (.int .i64 (last + 1)) ∧ Hc W w' gh (hLay (last + 1) l s) (last + 1) K ∧ KeptH K w w' := by
  obtain ⟨F, h1, h2, h3⟩ := h
  refine (hadd_any h1 hs hl hu (fun k hk hc => ?_)).mono ?_
  · rcases hR k hk with q | q
    · exact (h2 k q).1 hc
    · have := (h1.low k hc).1; omega
  · rintro e w' ⟨rfl, F', hf, hn, hx⟩
    exact ⟨rfl, hc_frm h2 h3 h1 hf hn hx⟩
theorem hc_back (h : Hc W w gh s last K) (hs : s.length ≤ 4294967296) (hl : last ≤ 4294967296) (id : Int) {R : Bl} {u : Value} {l : List Nat} (hu : KeyAt w R u l) (hR : ∀ k, R k → K k ∨ k < W.heap.size) :
    Calls Tryd.prog 15 #[.pointer (some ⟨gh, 0, none⟩), .int .i64 id, u] w fun e w' => e = .returned (.bool (decide (1 ≤ id ∧ id ≤ last ∧ hFind id s < 0))) ∧ Hc W w' gh (if 1 ≤ id ∧ id ≤ last ∧ hFind id s < 0 then hLay id l s else s) last K ∧ KeptH K w w' := by
  obtain ⟨F, h1, h2, h3⟩ := h
  refine (hback_any h1 hs hl id hu (fun k hk hc => ?_)).mono ?_
  · rcases hR k hk with q | q
    · exact (h2 k q).1 hc
    · have := (h1.low k hc).1; omega
  · rintro e w' ⟨rfl, F', hf, hn, hx⟩
    exact ⟨rfl, hc_frm h2 h3 h1 hf hn hx⟩
theorem hc_drop (h : Hc W w gh s last K) (hs : s.length ≤ 4294967296) (hl : last ≤ 4294967296) (id : Int) :
    Calls Tryd.prog 13 #[.pointer (some ⟨gh, 0, none⟩), .int .i64 id] w fun e w' => e = .returned (.bool (decide (0 ≤ hFind id s))) ∧ Hc W w' gh (hDrop id s) last K ∧ KeptH K w w' := by
  obtain ⟨F, h1, h2, h3⟩ := h
  refine (hdrop_any h1 hs hl id).mono ?_
  rintro e w' ⟨rfl, F', hf, hn, hx⟩
  exact ⟨rfl, hc_frm h2 h3 h1 hf hn hx⟩
def hSet (id : Int) (l : List Nat) (s : List Sl) : List Sl := if hFind id s < 0 then s else s.set (hFind id s).toNat (id, l)
theorem hc_set (h : Hc W w gh s last K) (id : Int) {R : Bl} {u : Value} {l : List Nat} (hu : KeyAt w R u l) :
    Calls Tryd.prog 18 #[.pointer (some ⟨gh, 0, none⟩), .int .i64 id, u] w fun e w' => e = .returned (.bool (decide (0 ≤ hFind id s))) ∧ Hc W w' gh (hSet id l s) last K ∧ KeptH K w w' := by
  obtain ⟨F, h1, h2, h3⟩ := h
  refine (hset_any h1 id hu).mono ?_
  rintro e w' ⟨hf, ⟨q1, rfl, hx⟩ | ⟨k, row, q1, q2, rfl, hx⟩⟩
  · have e : hSet id l s = s := by unfold hSet; rw [if_pos (by omega)]
    rw [q1, decide_eq_false (by omega), e]
    exact ⟨rfl, hc_frm h2 h3 h1 hf (New.refl _ _) hx⟩
  · have e : hSet id l s = s.set k (id, l) := by unfold hSet; rw [if_neg (by omega), q2]; rfl
    rw [q2, decide_eq_true (by omega), e]
    exact ⟨rfl, hc_frm h2 h3 h1 hf (New.refl _ _) hx⟩
theorem hc_get (h : Hc W w gh s last K) (id : Int) : Calls Tryd.prog 22 #[.pointer (some ⟨gh, 0, none⟩), .int .i64 id] w (GetH w s id) := by
  obtain ⟨F, h1, h2, h3⟩ := h
  exact hget_any h1 id
theorem hc_place (h : Hc W w gh s last K) (id : Int) : Calls Tryd.prog 25 #[.pointer (some ⟨gh, 0, none⟩), .int .i64 id] w fun e w' => e = .returned (.tuple #[.int .i64 (PlaceI id s).1, .int .i64 (PlaceI id s).2]) ∧ Below w.heap.size w w' := by
  obtain ⟨F, h1, h2, h3⟩ := h
  exact hplace_any h1 id
theorem hc_len (h : Hc W w gh s last K) : Calls Tryd.prog 24 #[.pointer (some ⟨gh, 0, none⟩)] w fun e w' => e = .returned (.int .i64 (hLen s : Nat)) ∧ w = w' := by
  obtain ⟨F, h1, h2, h3⟩ := h
  exact hlen_any h1
theorem hc_last (h : Hc W w gh s last K) : Calls Tryd.prog 26 #[.pointer (some ⟨gh, 0, none⟩)] w fun e w' => e = .returned (.int .i64 last) ∧ w = w' := by
  obtain ⟨F, h1, h2, h3⟩ := h
  exact hlast_any h1
theorem hc_behind (h : Hc W w gh s last K) (hl : last ≤ 4294967296) (id : Int) (hi : InI id) : Calls Tryd.prog 19 #[.pointer (some ⟨gh, 0, none⟩), .int .i64 id] w fun e w' => e = .returned (.tuple #[.int .i64 (hBeh id 0 s), .bool (decide (0 < hBeh id 0 s))]) ∧ Below w.heap.size w w' := by
  obtain ⟨F, h1, h2, h3⟩ := h
  exact hbehind_any h1 hl id hi
theorem hc_pages (h : Hc W w gh s last K) (hs : s.length ≤ 4294967296) : Calls Tryd.prog 23 #[.pointer (some ⟨gh, 0, none⟩)] w fun e w' => ∃ v', e = .returned v' ∧ OwI w' w.heap.size v' (hPages s) ∧ Below w.heap.size w w' := by
  obtain ⟨F, h1, h2, h3⟩ := h
  exact hpages_any h1 hs
/-- a call by another way to the world: what lies behind the heap's state may be new -/
theorem Hc.to {w1 : World} (h : Hc W w gh s last K) (hb : Below w.heap.size w w1) : Hc W w1 gh s last (fun k => K k ∨ (w.heap.size ≤ k ∧ k < w1.heap.size)) := h.more hb (fun k hk => hk)
end
/-- haspref07.Copy of a row -/
theorem copy_row {w : World} {R : Bl} {u : Value} {k : List Nat} (h : KeyAt w R u k) (hl : k.length ≤ 17592186044416) : Calls Tryd.prog 10 #[u] w fun e w' => ∃ v, e = .returned v ∧ KeyAt w' (fun b => w.heap.size ≤ b ∧ b < w'.heap.size) v k ∧ Below w.heap.size w w' ∧ OwB w' w.heap.size v k := by
  have hlt := h.lt
  obtain ⟨a, b, off, cap, rfl, h1, h2⟩ := h
  refine (refcopy_any a b off cap k hl w (h1.imp_right fun h => h.1) h2).mono ?_
  rintro e w' ⟨v, rfl, h3, h4⟩
  exact ⟨v, rfl, h3.keyAt hlt (fun b hb => h3.1.lt b hb), h4, h3⟩
theorem key_none (w : World) (R : Bl) : KeyAt w R (.slice none 0 0) [] := ⟨none, 0, 0, 0, rfl, .inl rfl, ⟨fun h => absurd h (by simp), fun i x hx => by simp at hx, fun x hx => by simp at hx⟩⟩

end Go.Proofs.YtmmchhlfbhbigaaDoor

namespace Go.Proofs.YtmmchhlfbhbigaaDoor
set_option maxRecDepth 100000
open Go.RowKit Go.Joins Go.ChangeShapes Go.WideShapes
set_option linter.unusedVariables false
set_option linter.unusedSimpArgs false

theorem key1h (w : World) (x : Nat) (hx : x < 256) (z : Int) (hz : z = (x : Int)) : KeyAt (w.alloc (.cells #[.int .u8 z] 5 (1, 2))) (fun k => w.heap.size ≤ k ∧ k < (w.alloc (.cells #[.int .u8 z] 5 (1, 2))).heap.size) (.slice (some ⟨w.heap.size, 0, none⟩) 1 1) [x] := by
  subst hz
  refine ⟨_, w.heap.size, 0, 1, rfl, .inr ⟨rfl, Nat.le_refl _, by simp⟩, ⟨fun _ => by simp, fun i y hy => ?_, fun y hy => by simp at hy; subst hy; exact hx⟩⟩
  have hi : i = 0 := by have := (List.getElem?_eq_some_iff.1 hy).1; simpa using this
  subst hi
  simp at hy
  subst hy
  rw [cell_of_block (heap_alloc_new w _)]
  rfl
theorem conv_sameh (z : Int) (n c : Nat) (wx : World) : (convert 30 30 (.slice (some ⟨wx.heap.size, 0, none⟩) n c)).run Tryd.prog (wx.alloc (.cells #[.int .u8 z] 5)) = .ok (.slice (some ⟨wx.heap.size, 0, none⟩) n c) (wx.alloc (.cells #[.int .u8 z] 5 (1, 2))) :=
  Lib.run_convert_bytes_const wx 30 5 #[.int .u8 z] n c Tryd.underlying30 Tryd.underlying5
section
variable {W w : World} {gh : Nat} {s s' : List Sl} {last last' : Int} {K : Bl}
theorem hc_add1 (h : Hc W w gh s last K) (x : Nat) (z : Int) (hx : x < 256) (hz : z = (x : Int)) (hs : s.length ≤ 4294967296) (hl : last ≤ 4294967296) (e1 : hLay (last + 1) [x] s = s') (e2 : last + 1 = last') :
    Calls Tryd.prog 11 #[.pointer (some ⟨gh, 0, none⟩), .slice (some ⟨w.heap.size, 0, none⟩) 1 1] (w.alloc (.cells #[.int .u8 z] 5 (1, 2))) fun e w' => e = .returned (.int .i64 last') ∧ Hc W w' gh s' last' K := by
  refine (hc_add (h.to ((Below.refl _ _).alloc (Nat.le_refl _) _)) hs hl (key1h w x hx z hz) (fun k hk => .inl (.inr hk))).mono ?_
  rintro e w' ⟨rfl, h1, -⟩
  rw [e1, e2] at h1
  rw [e2]
  exact ⟨rfl, h1.mono (fun k hk => .inl hk)⟩
theorem hc_add0 (h : Hc W w gh s last K) (hs : s.length ≤ 4294967296) (hl : last ≤ 4294967296) (e1 : hLay (last + 1) [] s = s') (e2 : last + 1 = last') :
    Calls Tryd.prog 11 #[.pointer (some ⟨gh, 0, none⟩), .slice none 0 0] w fun e w' => e = .returned (.int .i64 last') ∧ Hc W w' gh s' last' K := by
  refine (hc_add h hs hl (key_none w (fun _ => False)) (fun k hk => hk.elim)).mono ?_
  rintro e w' ⟨rfl, h1, -⟩
  rw [e1, e2] at h1
  rw [e2]
  exact ⟨rfl, h1⟩
end
set_option maxHeartbeats 2000000 in
theorem speaks8_any (W : World) (hT : TabT W) : Calls Tryd.prog 8 #[] W fun e w' => e = .returned (.bool true) ∧ Below W.heap.size W w' := by
  generalize hP : (fun (e : Ending) (w' : World) => e = .returned (.bool true) ∧ Below W.heap.size W w') = P
  have HP := Lib.hid hP
  have HNEW := Lib.hid (hc_new W hT)
  have hcvt := conv_sameh
  clear hP hT
  go_enter Tryd.func8, Tryd.ntmps8
  go_wp2_with fail
  refine HNEW.out.mono ?_
  rintro e w1 ⟨gh, rfl, h1, -⟩
  have H1 := Lib.hid h1
  clear h1 HNEW
  go_wp2_with fail
  refine (hc_add1 (s' := [(1, [120])]) (last' := 1) H1.out 120 120 (by decide) rfl (by decide) (by decide) rfl rfl).mono ?_
  rintro e w2 ⟨rfl, h2⟩
  have H2 := Lib.hid h2
  clear h2
  go_wp2_with fail
  refine (hc_add0 (s' := [(1, [120]), (2, [])]) (last' := 2) H2.out (by decide) (by decide) rfl rfl).mono ?_
  rintro e w3 ⟨rfl, h3⟩
  have H3 := Lib.hid h3
  clear h3
  go_wp2_with fail
  refine (hc_add0 (s' := [(1, [120]), (2, []), (3, [])]) (last' := 3) H3.out (by decide) (by decide) rfl rfl).mono ?_
  rintro e w4 ⟨rfl, h4⟩
  have H4 := Lib.hid h4
  clear h4
  go_wp2_with fail
  refine (hc_drop H4.out (by decide) (by decide) 1).mono ?_
  rintro e w5 ⟨rfl, h5, -⟩
  have H5 := Lib.hid (show Hc W w5 gh [(0, []), (2, []), (3, [])] 3 _ from h5)
  have q5 : decide (0 ≤ hFind 1 [(1, [120]), (2, []), (3, [])]) = true := rfl
  rw [q5]
  clear h5 q5
  go_wp2_with fail
  refine (hc_add1 (s' := [(4, [121]), (2, []), (3, [])]) (last' := 4) H5.out 121 121 (by decide) rfl (by decide) (by decide) rfl rfl).mono ?_
  rintro e w6 ⟨rfl, h6⟩
  have H6 := Lib.hid h6
  clear h6
  go_wp2_with fail
  refine (hc_back (H6.out.to ((Below.refl _ _).alloc (Nat.le_refl _) _)) (by decide) (by decide) 1 (key1h w6 120 (by decide) 120 rfl) (fun k hk => .inl (.inr hk))).mono ?_
  rintro e w7 ⟨rfl, h7, -⟩
  have H7 := Lib.hid (show Hc W w7 gh [(4, [121]), (2, []), (3, []), (1, [120])] 4 _ from h7)
  have q7 : decide (1 ≤ (1 : Int) ∧ (1 : Int) ≤ 4 ∧ hFind 1 [(4, [121]), (2, []), (3, [])] < 0) = true := rfl
  rw [q7]
  clear h7 q7
  go_wp2_with fail
  refine (hc_place H7.out 4).mono ?_
  rintro e w8 ⟨rfl, b8⟩
  have H8 := Lib.hid (H7.out.below b8)
  rw [show (PlaceI 4 [(4, [121]), (2, []), (3, []), (1, [120])]).1 = 0 from rfl, show (PlaceI 4 [(4, [121]), (2, []), (3, []), (1, [120])]).2 = 0 from rfl]
  clear b8
  go_wp2_with fail
  refine (hc_place H8.out 1).mono ?_
  rintro e w9 ⟨rfl, b9⟩
  have H9 := Lib.hid (H8.out.below b9)
  rw [show (PlaceI 1 [(4, [121]), (2, []), (3, []), (1, [120])]).1 = 0 from rfl, show (PlaceI 1 [(4, [121]), (2, []), (3, []), (1, [120])]).2 = 3 from rfl]
  clear b9
  go_wp2_with fail
  refine (hc_get H9.out 1).mono ?_
  rintro e w10 ⟨b10, ⟨q, -⟩ | ⟨k, row, v10, q1, -, q3, hk10, rfl⟩⟩
  · exact absurd q (by decide)
  have hk3 : k = 3 := by
    rw [show hFind 1 [(4, [121]), (2, []), (3, []), (1, [120])] = 3 from rfl] at q3
    omega
  subst hk3
  have hrow : row = [120] := by injection q1 with q1; injection q1 with _ q1; exact q1.symm
  subst hrow
  have H10 := Lib.hid (H9.out.below b10)
  obtain ⟨g10, cap10, rfl, -⟩ := _root_.id hk10
  have K10 := Lib.hid (hk10.keyAt (R := fun _ => True) (fun _ _ => trivial))
  clear b10 hk10 q1 q3
  go_wp2_with fail
  refine (hc_behind H10.out (by decide) 2 (by unfold InI; decide)).mono ?_
  rintro e w11 ⟨rfl, b11⟩
  rw [show hBeh 2 0 [(4, [121]), (2, []), (3, []), (1, [120])] = 3 from rfl]
  have H11 := Lib.hid (H10.out.below b11)
  have y11 : (convert 30 9 (.slice (some ⟨g10, 0, none⟩) 1 cap10)).run Tryd.prog w11 = .ok (.string ⟨#[120]⟩) w11 := (K10.out.step (Frm.of_below (F := fun _ => False) b11) (fun _ _ h => h)).str
  clear b11
  go_wp2_with fail
  refine (hc_len H11.out).mono ?_
  rintro e w12 ⟨rfl, rfl⟩
  rw [show hLen [(4, [121]), (2, []), (3, []), (1, [120])] = 4 from rfl]
  go_wp2_with fail
  refine (hc_pages H11.out (by decide)).mono ?_
  rintro e w13 ⟨v13, rfl, o13, b13⟩
  obtain ⟨g13, cap13, rfl, hg13, n13⟩ := o13.form
  rw [show (hPages [(4, [121]), (2, []), (3, []), (1, [120])]).length = 1 from rfl]
  have N13 := Lib.hid n13
  have H13 := Lib.hid (H11.out.below b13)
  clear o13 b13 n13 hg13
  go_wp2_with fail
  have b14 : Below w13.heap.size w13 (w13.alloc (.cells #[.int .i64 4] 3)) := (Below.refl _ _).alloc (Nat.le_refl _) _
  have n14 : IsN (w13.alloc (.cells #[.int .i64 4] 3)) w13.heap.size 0 [4] := ⟨fun _ => by simp, fun i x hx => by
    have hi : i = 0 := by have := (List.getElem?_eq_some_iff.1 hx).1; simpa using this
    subst hi
    simp at hx
    subst hx
    rw [Nat.zero_add, cell_of_block (heap_alloc_new w13 _)]
    rfl⟩
  have hsi := sameints_any (some ⟨g13, 0, none⟩) (some ⟨w13.heap.size, 0, none⟩) g13 0 cap13 w13.heap.size 0 1 (hPages [(4, [121]), (2, []), (3, []), (1, [120])]) [4] (by decide) (by decide) _ (.inr rfl) (.inr rfl) (N13.out.below b14) n14
  refine hsi.mono ?_
  rintro e w15 ⟨rfl, b15⟩
  rw [show decide (hPages [(4, [121]), (2, []), (3, []), (1, [120])] = [4]) = true from rfl]
  have H15 := Lib.hid (H13.out.below (stepB b14 b15))
  clear b14 n14 hsi b15
  go_wp2_with fail
  refine (hc_set H15.out 2 (key_none w15 (fun _ => False))).mono ?_
  rintro e w16 ⟨rfl, h16, -⟩
  rw [show decide (0 ≤ hFind 2 [(4, [121]), (2, []), (3, []), (1, [120])]) = true from rfl]
  have HB := Lib.hid h16.bel
  clear h16
  go_wp2_with fail
  rw [← HP.out]
  exact ⟨rfl, HB.out⟩

end Go.Proofs.YtmmchhlfbhbigaaDoor

namespace Go.Proofs.YtmmchhlfbhbigaaDoor
set_option maxRecDepth 100000
open Go.RowKit Go.Joins Go.ChangeShapes Go.WideShapes
set_option linter.unusedVariables false
set_option linter.unusedSimpArgs false

/-- an int that came in -/
theorem open_intb {W : World} {r : Reach} {b0 : Nat} {v : Value} (o : Value.okWide Tryd.prog W r b0 3 v) : ∃ k : Int, v = .int .i64 k ∧ InI k ∧ True := by
  obtain ⟨k, rfl⟩ := okWide_int Tryd.underlying3 o
  simp [Value.okWide, Tryd.underlying3, Cell.okWide, Cell.ok, IntKind.has, IntKind.min, IntKind.max, IntKind.signed, IntKind.bits] at o
  exact ⟨k, rfl, by unfold InI; omega, trivial⟩

theorem hFind_has {s : List Sl} {k : Nat} {id : Int} {row : List Nat} (hk : s[k]? = some (id, row)) (hi : 0 < id) : hFind id s ≠ -1 := by
  have : ∀ (s' : List Sl) (i k : Nat), s'[k]? = some (id, row) → hFindN id s' i ≠ -1 := by
    intro s'
    induction s' with
    | nil => intro i k h; simp at h
    | cons y r ih =>
      intro i k h
      unfold hFindN
      split
      · omega
      · next c =>
        cases k with
        | zero => simp only [List.getElem?_cons_zero, Option.some.injEq] at h; exact absurd ⟨hi, by rw [h]⟩ c
        | succ k => exact ih (i + 1) k h
  exact this s 0 k hk
theorem hDrop_len (id : Int) (s : List Sl) : (hDrop id s).length = s.length := by unfold hDrop; split <;> simp
/-- a row that goes and comes back -/
theorem back_same {s : List Sl} {last id : Int} {k : Nat} {row : List Nat} (h : SlOk s last) (hk : s[k]? = some (id, row)) (hf : hFind id s = (k : Int)) (hi : 0 < id) :
    hFind id (hDrop id s) = -1 ∧ hLen (hLay id row (hDrop id s)) = hLen s ∧ (∀ (k' : Nat) (row' : List Nat), (hLay id row (hDrop id s))[k']? = some (id, row') → row' = row) ∧ hFind id (hLay id row (hDrop id s)) ≠ -1 ∧ id ≤ last := by
  have hkl : k < s.length := (List.getElem?_eq_some_iff.1 hk).1
  have hd : hDrop id s = s.set k (0, []) := by unfold hDrop; rw [if_neg (by omega), hf]; rfl
  have hat : ∀ j, (s.set k ((0 : Int), ([] : List Nat)))[j]? = if k = j then some (0, []) else s[j]? := fun j => by
    rw [List.getElem?_set]
    by_cases c : k = j
    · rw [if_pos c, if_pos c, if_pos hkl]
    · rw [if_neg c, if_neg c]
  have hno : ∀ (j : Nat) (r : List Nat), (s.set k ((0 : Int), ([] : List Nat)))[j]? = some (id, r) → False := fun j r hj => by
    rw [hat] at hj
    split at hj
    · injection hj with hj; injection hj with hj _; omega
    · next c => exact c (h.uniq k j id row r hk hj hi)
  rw [hd]
  refine ⟨?_, ?_, fun k' row' hk' => ?_, ?_, (h.ids k id row hk).2⟩
  · rcases hFind_at id (s.set k (0, [])) with e | ⟨j, x, h1, h2, h3, h4⟩
    · exact e
    · exact (hno j x.2 (by rw [h1, ← h4])).elim
  · have h1 := hLen_set s k _ (0, []) hk
    rw [if_pos hi, if_neg (by simp)] at h1
    rw [hLen_lay _ _ _ hi]; omega
  · rw [hLay_at] at hk'
    split at hk'
    · injection hk' with hk'; injection hk' with _ hk'; exact hk'.symm
    · exact (hno _ _ hk').elim
  · exact hFind_has (k := hFreeN (s.set k (0, [])) 0) (row := row) (by rw [hLay_at, if_pos rfl]) hi
theorem OwK.keptH {w w' : World} {base : Nat} {v : Value} {l : List Nat} (h : OwK w base v l) (hk : ∀ k, v.ownBlock = some k → w'.heap[k]? = w.heap[k]?) (hs : w.heap.size ≤ w'.heap.size) : OwK w' base v l := by
  obtain ⟨g, cap, rfl, h1, h2, h3, h4, h5⟩ := h
  have hg := hk g rfl
  exact ⟨g, cap, rfl, h1, Nat.lt_of_lt_of_le h2 hs, fun i x hx => (World.cell?_of_block (a := ⟨g, i, none⟩) hg).trans (h3 i x hx), fun i hi => (World.frozen?_of_block (a := ⟨g, i, none⟩) hg).trans (h4 i hi), h5⟩

/-- rows are no longer than so much -/
def RowsLe (m : Nat) (s : List Sl) : Prop := ∀ x ∈ s, x.2.length ≤ m
theorem hLay_mem {id : Int} {row : List Nat} {s : List Sl} {x : Sl} (h : x ∈ hLay id row s) : x = (id, row) ∨ x ∈ s := by
  obtain ⟨j, hj⟩ := List.getElem?_of_mem h
  rw [hLay_at] at hj
  split at hj
  · injection hj with hj; exact .inl hj.symm
  · exact .inr (List.mem_of_getElem? hj)
theorem hDrop_mem {id : Int} {s : List Sl} {x : Sl} (h : x ∈ hDrop id s) : x = (0, []) ∨ x ∈ s := by
  unfold hDrop at h
  split at h
  · exact .inr h
  · rcases List.mem_or_eq_of_mem_set h with q | q
    · exact .inr q
    · exact .inl q
theorem RowsLe.lay {m : Nat} {s : List Sl} (h : RowsLe m s) {id : Int} {row : List Nat} (hr : row.length ≤ m) : RowsLe m (hLay id row s) := by
  intro x hx
  rcases hLay_mem hx with rfl | q
  · exact hr
  · exact h x q
theorem RowsLe.drop {m : Nat} {s : List Sl} (h : RowsLe m s) (id : Int) : RowsLe m (hDrop id s) := by
  intro x hx
  rcases hDrop_mem hx with rfl | q
  · simp
  · exact h x q
theorem RowsLe.nil (m : Nat) : RowsLe m [] := fun x hx => by cases hx

end Go.Proofs.YtmmchhlfbhbigaaDoor
