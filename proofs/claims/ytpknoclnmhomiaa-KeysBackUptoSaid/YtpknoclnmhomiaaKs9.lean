/-
  Package keys over the translation: Decode.
  Conditions: the bytes lie in memory.
-/
import Derived.Test.YtpknoclnmhomiaaKs8
import Derived.Deep.RegionLaw
namespace Go.Proofs.Ytpknoclnmhomiaa
open Go.RowKit Go.Joins Go.ChangeShapes Go.WideShapes
set_option linter.unusedVariables false

theorem step_pushV {ops : Array Oper} {o : Oper} {a : Act} {w : World} {K : Act → World → Prop} {Q : Exit → Act → World → Prop} {E : Prop} (hgd : o.guard = none) (s x : Operand)
    (ho : o.op = .call { callee := .builtin .append, args := #[s, x], argTypes := #[22, 22] })
    (base : Nat) (v : Value) (l : List Vt) (hs : a.eval s = v) (hown : w.ownsRow base 35 3 v l.length (vlcells l)) (ad : Addr) (m c : Nat) (r : List Vt) (hx : a.eval x = .slice (some ad) m c) (hm : r.length = m) (hm0 : m ≠ 0)
    (hnews : ∀ j u, (vlcells r)[j]? = some u → w.cell? (ad.add j) = some u) (hsz : l.length + m ≤ 2199023255552) (hbase : base ≤ w.heap.size)
    (h : ∀ v' w', OwV w' base v' (l ++ r) → w.grownBy w' v.ownBlock → K (a.put o.dst v') w') : if Region.wanted o (yielded ops a.tmps) = true then Oper.wp Try.prog o a w K Q else E := by
  obtain ⟨i0, hi, hz0, hz1, hz2⟩ := info_parts infoV
  have hw : Region.wanted o (yielded ops a.tmps) = true := by simp [Region.wanted, hgd]
  rw [if_pos hw]
  refine wp_append_own w s x _ ho base 35 i0 _ 3 32 Try.underlying22 hi hz0 hz1 hz2 rfl (by decide) v l.length (vlcells l) hs hown ad m c (vlcells r) hx (by rw [vlcells_length, hm]) hnews (vlcells_one r) (by unfold maxLen; omega) (by omega) hbase ?_
  intro v' w' h1 h2 h3
  refine h v' w' ⟨?_, fun e => hm0 (h3.1 e).2⟩ h2
  rw [vlcells_app, List.length_append, hm]
  exact h1

/-- a reading of a list: the list's variable (block B), the error's (B + 1), the reader (B + 2), what is read so far -/
structure Dx (W wr : World) (b off : Nat) (rest : List Nat) (v : Value) (acc : List Vt) : Prop where
  bel : Below W.heap.size W wr
  rd : Rd wr (W.heap.size + 2) b off rest
  lst : wr.heap[W.heap.size]? = some (.cells #[v] 22 (0, 0))
  err : wr.heap[W.heap.size + 1]? = some (.cells #[.int .i64 0] 29 (0, 0))
  own : wr.ownsRow (W.heap.size + 3) 35 3 v acc.length (vlcells acc)
  hb : 0 < rest.length → b < W.heap.size
theorem Dx.lt {W wr : World} {b off : Nat} {rest : List Nat} {v : Value} {acc : List Vt} (h : Dx W wr b off rest v acc) : W.heap.size + 3 ≤ wr.heap.size := h.rd.lt
theorem Dx.cells {W wr : World} {b off : Nat} {rest : List Nat} {v : Value} {acc : List Vt} (h : Dx W wr b off rest v acc) :
    wr.cell? ⟨W.heap.size, 0, none⟩ = some v ∧ wr.frozen? ⟨W.heap.size, 0, none⟩ = false ∧ wr.cell? ⟨W.heap.size + 1, 0, none⟩ = some (.int .i64 0) ∧ wr.frozen? ⟨W.heap.size + 1, 0, none⟩ = false :=
  ⟨by rw [cell_of_block h.lst]; rfl, unfrozen_of_block h.lst 0, by rw [cell_of_block h.err]; rfl, unfrozen_of_block h.err 0⟩
/-- a step that writes the reader alone -/
theorem Dx.step {W wr w1 : World} {b off off' : Nat} {rest rest' : List Nat} {v : Value} {acc : List Vt} (h : Dx W wr b off rest v acc) (hr : Rd w1 (W.heap.size + 2) b off' rest') (hl : rest'.length ≤ rest.length) (hg : wr.grownBy w1 (some (W.heap.size + 2))) : Dx W w1 b off' rest' v acc :=
  have hlt := h.lt
  ⟨h.bel.grown hg (by omega) (fun k hk => by injection hk with hk; omega), hr, (hg.block _ (by omega) (by simp)).trans h.lst, (hg.block _ (by omega) (by simp)).trans h.err,
    h.own.kept hg (by
      by_cases c : v.ownBlock = none
      · exact .inl c
      · refine .inr (fun e => ?_)
        have := (h.own.lt _ e).1
        omega), fun hx => h.hb (by omega)⟩
theorem Dx.alloc {W wr : World} {b off : Nat} {rest : List Nat} {v : Value} {acc : List Vt} (h : Dx W wr b off rest v acc) (o : Obj) : Dx W (wr.alloc o) b off rest v acc :=
  h.step (h.rd.below ((Below.refl _ _).alloc (Nat.le_refl _) _)) (Nat.le_refl _) (World.grownBy_alloc _ _ _)
theorem Dx.drew {W wr : World} {b off : Nat} {rest : List Nat} {v : Value} {acc : List Vt} (h : Dx W wr b off rest v acc) : Dx W wr.drew b off rest v acc :=
  h.step (h.rd.below (Below.refl _ _).drew) (Nat.le_refl _) ⟨rfl, rfl, rfl, Nat.le_refl _, fun _ _ _ => rfl⟩
/-- a value is put behind the list, and the list laid -/
theorem Dx.push {W wr w1 : World} {b off : Nat} {rest : List Nat} {v v' : Value} {acc acc' : List Vt} (h : Dx W wr b off rest v acc) (ho : OwV w1 (W.heap.size + 3) v' acc') (hg : wr.grownBy w1 v.ownBlock) : Dx W (w1.setCell ⟨W.heap.size, 0, none⟩ v') b off rest v' acc' := by
  have hlt := h.lt
  have hne : ∀ k, k < W.heap.size + 3 → some k ≠ v.ownBlock := fun k hk e => by
    have := (h.own.lt k e.symm).1
    omega
  have hg2 := grown_setCell w1 W.heap.size 0 v'
  have hs := hg.size
  have hl1 : w1.heap[W.heap.size]? = some (.cells #[v] 22 (0, 0)) := (hg.block _ (by omega) (hne _ (by omega))).trans h.lst
  refine ⟨(h.bel.grown hg (by omega) (fun k hk => by have := (h.own.lt k hk).1; omega)).setCell (Nat.le_refl _) _, ?_, ?_, ?_, ?_, h.hb⟩
  · exact (h.rd.grown hg (fun hl => hne b (by have := h.hb hl; omega)) (hne _ (by omega))).grown hg2 (fun hl => by have := h.hb hl; simp; omega) (by simp)
  · rw [block_setCell hl1 _]; rfl
  · exact (hg2.block _ (by omega) (by simp)).trans ((hg.block _ (by omega) (hne _ (by omega))).trans h.err)
  · refine ho.1.kept hg2 (.inr fun e => ?_)
    have := (ho.1.lt _ e).1
    omega
theorem Dx.outV {W wr : World} {b off : Nat} {rest : List Nat} {v : Value} {acc : List Vt} (h : Dx W wr b off rest v acc) : OutV wr W.heap.size v acc := by
  by_cases c : v = .slice none 0 0
  · left
    refine ⟨c, ?_⟩
    subst c
    rcases h.own.2 with ⟨_, e⟩ | ⟨g, cap, cur, e, _⟩
    · exact List.length_eq_zero_iff.1 e
    · cases e
  · exact .inr ⟨ownsRow_le h.own (by omega), c⟩

theorem Dx.fin {W wr : World} {b off : Nat} {rest : List Nat} {v : Value} {acc : List Vt} (h : Dx W wr b off rest v acc) (gl ge : Nat) (hgl : W.heap.size = gl) (hge : W.heap.size + 1 = ge) (u u' : Value) :
    OutV ((wr.setCell ⟨gl, 0, none⟩ u).setCell ⟨ge, 0, none⟩ u') W.heap.size v acc ∧ Below W.heap.size W ((wr.setCell ⟨gl, 0, none⟩ u).setCell ⟨ge, 0, none⟩ u') := by
  subst hgl hge
  refine ⟨?_, (h.bel.setCell (p := ⟨W.heap.size, 0, none⟩) (Nat.le_refl _) u).setCell (p := ⟨W.heap.size + 1, 0, none⟩) (Nat.le_succ _) u'⟩
  have hne : ∀ k, k < W.heap.size + 3 → v.ownBlock ≠ some k := fun k hk e => by
    have := (h.own.lt k e).1
    omega
  rcases h.outV with ⟨e1, e2⟩ | ho
  · exact .inl ⟨e1, e2⟩
  · exact .inr ((ho.set (hne _ (by omega)) u).set (hne _ (by omega)) u')
theorem Dx.kept {W wr w1 : World} {b off : Nat} {rest : List Nat} {v : Value} {acc : List Vt} (h : Dx W wr b off rest v acc) (hg : wr.grownBy w1 v.ownBlock) (gl : Nat) (hgl : W.heap.size = gl) : w1.cell? ⟨gl, 0, none⟩ = some v ∧ w1.frozen? ⟨gl, 0, none⟩ = false := by
  subst hgl
  have hlt := h.lt
  have hl1 := (hg.block W.heap.size (by omega) (fun e => by have := (h.own.lt _ e.symm).1; omega)).trans h.lst
  exact ⟨by rw [cell_of_block hl1]; rfl, unfrozen_of_block hl1 0⟩
theorem Dx.list {W wr : World} {b off : Nat} {rest : List Nat} {v : Value} {acc : List Vt} (h : Dx W wr b off rest v acc) (gl : Nat) (hgl : W.heap.size = gl) : wr.cell? ⟨gl, 0, none⟩ = some v ∧ wr.frozen? ⟨gl, 0, none⟩ = false ∧ gl < wr.heap.size := by
  subst hgl
  obtain ⟨a, b, -⟩ := h.cells
  exact ⟨a, b, by have := h.lt; omega⟩
theorem Dx.push' {W wr w1 : World} {b off : Nat} {rest : List Nat} {v v' : Value} {acc acc' : List Vt} (h : Dx W wr b off rest v acc) (ho : OwV w1 (W.heap.size + 3) v' acc') (hg : wr.grownBy w1 v.ownBlock) (gl : Nat) (hgl : W.heap.size = gl) : Dx W (w1.setCell ⟨gl, 0, none⟩ v') b off rest v' acc' := by
  subst hgl
  exact h.push ho hg
theorem Dx.read {W wr w1 : World} {b off off' gr : Nat} {rest rest' : List Nat} {v : Value} {acc : List Vt} (h : Dx W wr b off rest v acc) (hgr : W.heap.size + 1 + 1 = gr) (hr : Rd w1 gr b off' rest') (hl : rest'.length ≤ rest.length) (hg : wr.grownBy w1 (some gr)) : Dx W w1 b off' rest' v acc := by
  subst hgr
  exact h.step hr hl hg
theorem Dx.stop {W wr w1 : World} {b off gl ge gr : Nat} {rest : List Nat} {v : Value} {acc : List Vt} (h : Dx W wr b off rest v acc) (hgl : W.heap.size = gl) (hge : W.heap.size + 1 = ge) (hgr : W.heap.size + 1 + 1 = gr) (hg : wr.grownBy w1 (some gr)) :
    w1.cell? ⟨gl, 0, none⟩ = some v ∧ w1.cell? ⟨ge, 0, none⟩ = some (.int .i64 0) ∧ w1.frozen? ⟨gl, 0, none⟩ = false ∧ w1.frozen? ⟨ge, 0, none⟩ = false ∧ gl < ge ∧ ge < w1.heap.size ∧ Below gl W w1 := by
  subst hgl hge hgr
  have hlt := h.lt
  have hs := hg.size
  have h1 := (hg.block W.heap.size (by omega) (by simp; omega)).trans h.lst
  have h2 := (hg.block (W.heap.size + 1) (by omega) (by simp)).trans h.err
  exact ⟨by rw [cell_of_block h1]; rfl, by rw [cell_of_block h2]; rfl, unfrozen_of_block h1 0, unfrozen_of_block h2 0, by omega, by omega, h.bel.grown hg (by omega) (fun k hk => by injection hk with hk; omega)⟩

theorem Dx.start (a : Option Addr) (b off cap : Nat) (l : List Nat) (hcap : l.length ≤ cap) (w : World) (ha : l.length = 0 ∨ a = some ⟨b, off, none⟩) (hA : IsB w b off l) :
    Dx w (((w.alloc (.cells #[.slice none 0 0] 22)).alloc (.cells #[.int .i64 0] 29)).alloc (.cells #[.slice a l.length cap] 52)) b off l (.slice none 0 0) [] := by
  have b1 : Below w.heap.size w (w.alloc (.cells #[.slice none 0 0] 22)) := (Below.refl _ _).alloc (Nat.le_refl _) _
  have n1 := heap_alloc_new w (.cells #[.slice none 0 0] 22)
  have s1 : (w.alloc (.cells #[.slice none 0 0] 22)).heap.size = w.heap.size + 1 := by simp
  generalize w.alloc (.cells #[.slice none 0 0] 22) = w1 at *
  have b2 : Below w1.heap.size w1 (w1.alloc (.cells #[.int .i64 0] 29)) := (Below.refl _ _).alloc (Nat.le_refl _) _
  have n2 := heap_alloc_new w1 (.cells #[.int .i64 0] 29)
  have s2 : (w1.alloc (.cells #[.int .i64 0] 29)).heap.size = w1.heap.size + 1 := by simp
  generalize w1.alloc (.cells #[.int .i64 0] 29) = w2 at *
  have b3 : Below w2.heap.size w2 (w2.alloc (.cells #[.slice a l.length cap] 52)) := (Below.refl _ _).alloc (Nat.le_refl _) _
  have n3 := heap_alloc_new w2 (.cells #[.slice a l.length cap] 52)
  generalize w2.alloc (.cells #[.slice a l.length cap] 52) = w3 at *
  rw [s1] at n2 s2
  rw [s2] at n3
  have hb : 0 < l.length → b < w.heap.size := hA.hb
  refine ⟨stepB (stepB b1 b2) b3, ⟨⟨a, cap, n3, ha, hcap⟩, hA.below (stepB (stepB b1 b2) b3), fun hl => by have := hb hl; omega⟩, ?_, ?_, World.ownsRow_nil _ _ _ 3, hb⟩
  · exact (b3.block _ (by omega)).trans ((b2.block _ (by omega)).trans n1)
  · exact (b3.block _ (by omega)).trans n2

set_option maxHeartbeats 4000000 in
theorem dec_any (a : Option Addr) (b off cap : Nat) (l : List Nat) (hcap : l.length ≤ cap) (hcm : cap ≤ maxLen) (hm : l.length ≤ 4294967295) (w : World) (ha : l.length = 0 ∨ a = some ⟨b, off, none⟩) (hA : IsB w b off l) :
    Calls Try.prog 16 #[.slice a l.length cap] w fun e w' => DecR w (decK l) e w' := by
  obtain ⟨T, hT⟩ : ∃ T, decK l = T := ⟨_, rfl⟩
  rw [hT]
  generalize hP : (fun (e : Ending) (w' : World) => DecR w T e w') = P
  have hgood : ∀ (acc : List Vt) (v : Value) (w' : World), T = (acc, 0) → OutV w' w.heap.size v acc → Below w.heap.size w w' → P (.returned (.tuple #[v, .int .i64 0])) w' := by
    intro acc v w' h1 h2 h3; rw [← hP, h1]; exact ⟨v, rfl, fun _ => h2, fun h => absurd rfl h, h3⟩
  have hbad : ∀ (c : Int) (w' : World), T.2 = c → c ≠ 0 → Below w.heap.size w w' → P (.returned (.tuple #[.slice none 0 0, .int .i64 c])) w' := by
    intro c w' h1 h2 h3; rw [← hP]; subst h1; exact ⟨_, rfl, fun h => absurd h h2, fun _ => ⟨none, 0, rfl⟩, h3⟩
  have HGOOD := Lib.hid hgood
  have HBAD := Lib.hid hbad
  have HT := Lib.hid hT
  have hmf : ∀ (fn : Fn) (first cap : Array Value) (w : World), (Instr.makeFunc fn first cap).run Try.prog w = .ok (.func fn first cap) w := fun _ _ _ _ => rfl
  have HD := Lib.hid (Dx.start a b off cap l hcap w ha hA)
  have HV := Lib.hid value_step
  have HCP := Lib.hid catch_panicking
  have HCI := Lib.hid catch_idle
  clear hP hT ha hA hgood hbad hcap hcm
  go_enter_defers Try.func16, Try.ntmps16
  go_wp2_with fail
  generalize (((w.alloc (.cells #[.slice none 0 0] 22)).alloc (.cells #[.int .i64 0] 29)).alloc (.cells #[.slice a l.length cap] 52)) = wd at *
  obtain ⟨gl, hgl⟩ : ∃ g, w.heap.size = g := ⟨_, rfl⟩
  obtain ⟨ge, hge⟩ : ∃ g, w.heap.size + 1 = g := ⟨_, rfl⟩
  obtain ⟨gr, hgr⟩ : ∃ g, w.heap.size + 1 + 1 = g := ⟨_, rfl⟩
  rw [hgr, hge, hgl]
  have HL := Lib.hid (And.intro hgl (And.intro hge hgr))
  clear hgl hge hgr
  go_loopw [] (fun wr => ∃ (acc : List Vt) (rest : List Nat) (v : Value) (off' : Nat), Dx w wr b off' rest v acc ∧ Hid (T = vapp acc (decK rest)) ∧ acc.length + rest.length ≤ l.length) (fun wr => rlen wr gr)
  case atStart => exact ⟨[], l, _, off, HD.out, by show T = _; rw [← HT.out]; exact (vapp_nil l).symm, by simp⟩
  case round =>
    obtain ⟨acc, rest, v, off1, hdx, HTT, hlen⟩ := hrel
    obtain ⟨Av, cv, rfl⟩ := own_form hdx.own
    have HDX := Lib.hid hdx
    obtain ⟨hgl, hge, hgr⟩ := HL.out
    obtain ⟨l0, z0, e0, y0⟩ := hdx.cells
    have hrd := hdx.rd
    have hlt := hdx.lt
    rw [show w.heap.size + 2 = gr by omega] at hrd
    rw [hgl] at l0 z0
    rw [hge] at e0 y0
    have hrl := hrd.len
    obtain ⟨A, cp, hbx, -⟩ := hrd.box
    have r0 : wr.cell? ⟨gr, 0, none⟩ = some (.slice A rest.length cp) := by rw [cell_of_block hbx]; rfl
    have HRD := Lib.hid hrd
    have hne : ¬ gl = ge := by omega
    have hne2 : ¬ ge = gl := by omega
    have hsz : gl < wr.heap.size := by omega
    have hsz2 : ge < wr.heap.size := by omega
    clear hrd hdx hbx hgl hge hgr
    rcases rest with _ | ⟨c, r⟩
    · have he : T = (acc, 0) := by rw [HTT.out, decK_nil]; unfold vapp; rw [if_pos rfl, List.append_nil]
      have HE := Lib.hid he
      clear he
      go_wp2_with fail
      refine leaves_cons (f := 27) (args := #[.pointer (some ⟨gl, 0, none⟩), .pointer (some ⟨ge, 0, none⟩)]) (by simp) (by simp [go_sem]) ?_
      refine (HCI.out _ _ _).mono ?_
      rintro e u' w'' ⟨rfl, rfl, rfl⟩
      simp [Leaves, settle, results, Try.results16, go_sem, *]
      have hf := HDX.out.fin gl ge HL.out.1 HL.out.2.1 (.slice Av acc.length cv) (.int .i64 0)
      exact HGOOD.out _ _ _ HE.out hf.1 hf.2
    · rw [List.length_cons] at hlen r0 hrl
      have hv := HV.out wr.drew gr b off1 c r (by omega) (HRD.out.below (Below.refl _ _).drew)
      unfold ValR Vv at hv
      obtain ⟨hgl, hge, hgr⟩ := HL.out
      by_cases hx : (decOne (c :: r)).1 = 0
      · have HX := Lib.hid hx
        have HLO := Lib.hid (decOne_len c r)
        have HTN := Lib.hid (show T = vapp (acc ++ [(decOne (c :: r)).2.1]) (decK (decOne (c :: r)).2.2) by rw [HTT.out, decK_cons, if_pos hx, vapp_cons])
        generalize decOne (c :: r) = X at *
        have HVV := Lib.hid hv
        have HEQ := Lib.hid (And.intro hgl hgr)
        clear hx hv hgl hge hgr
        go_upto_region 4 with fail
        go_region_law (first | (refine step_pushV rfl _ _ rfl (w.heap.size + 3) _ acc rfl (HDX1.out.alloc _).own ⟨w1.heap.size, 0, none⟩ 1 1 [X.2.1] rfl rfl (by decide) (newsV w1 _ _ _) (by omega) (HDX1.out.alloc _).lt ?_; intro v3 w3 hown3 hgrow3; obtain ⟨g3, c3, e3, -⟩ := OwV.form hown3; rw [List.length_append, List.length_singleton] at e3; subst e3; obtain ⟨k3, f3⟩ := (HDX1.out.alloc _).kept hgrow3 gl HEQ.out.1; have HDX3 := Lib.hid ((HDX1.out.alloc _).push' hown3 hgrow3 gl HEQ.out.1); clear hown3 hgrow3) | (go_simp; go_at_call 28; refine HVV.out.mono ?_; rintro e w1 ⟨hg1, hok, -⟩; obtain ⟨rfl, off2, hrd2⟩ := hok HX.out; have HDX1 := Lib.hid (HDX.out.drew.read HEQ.out.2 hrd2 (Nat.le_trans HLO.out (by simp)) hg1); obtain ⟨l1, z1, s1⟩ := HDX1.out.list gl HEQ.out.1; clear hg1 hok hrd2))
        all_goals
          go_wp2_with fail
          go_roundw
          case rel => exact ⟨acc ++ [X.2.1], X.2.2, _, off2, HDX3.out, HTN.out, by have := HLO.out; rw [List.length_append, List.length_singleton]; omega⟩
          case measure =>
            have h1 := HDX3.out.rd.len
            have h2 := HLO.out
            rw [show w.heap.size + 2 = gr by have := HEQ.out.2; omega] at h1
            rw [h1, hrl]
            omega
      · have hc := (hx : ¬ _)
        have hTc : T.2 = (decOne (c :: r)).1 := by rw [HTT.out, decK_cons, if_neg hx]; unfold vapp; rw [if_neg hx]
        have HTC := Lib.hid hTc
        have HX := Lib.hid hx
        generalize decOne (c :: r) = X at *
        have HVV := Lib.hid hv
        have HEQ := Lib.hid (And.intro hgl (And.intro hge hgr))
        clear hx hv hgl hge hgr hTc hc
        go_upto_region 4 with fail
        refine wp_region_any (by kernel_rfl) ?_
        refine wpAny_ready (rs := [0, 1]) (by kernel_rfl) (by simp) ?_
        refine AllReady.cons rfl (fun K hK => ?_) (AllReady.cons rfl (fun K hK => ?_) AllReady.nil)
        · go_simp
          refine hK _ _ ?_
          clear hK K
          refine wpAny_ready (rs := [1]) (by kernel_rfl) (by simp) ?_
          refine AllReady.cons rfl (fun K hK => ?_) AllReady.nil
          go_simp
          refine HVV.out.mono ?_
          rintro e w1 ⟨hg1, -, hno⟩
          obtain rfl := hno HX.out
          obtain ⟨k1, k2, k3, k4, k5, k6, k7⟩ := HDX.out.drew.stop HEQ.out.1 HEQ.out.2.1 HEQ.out.2.2 hg1
          have HC := Lib.hid (HCP.out gl ge X.1 [] w1 _ _ k1 k2 k3 k4 k5 k6)
          have HK := Lib.hid k7
          clear hg1 hno k1 k2 k3 k4 k5 k6 k7
          change Leaves _ _ _ P _ _ _
          refine leaves_cons (f := 27) (args := #[.pointer (some ⟨gl, 0, none⟩), .pointer (some ⟨ge, 0, none⟩)]) (by simp) (by simp [go_sem]) ?_
          refine HC.out.mono ?_
          rintro e u' w2 ⟨rfl, rfl, q1, q2, q3⟩
          simp [Leaves, settle, results, Try.results16, go_sem, q1, q2]
          have hgl := HEQ.out.1
          subst hgl
          exact HBAD.out _ _ HTC.out HX.out (HK.out.trans q3)
        · go_simp
          refine HVV.out.mono ?_
          rintro e w1 ⟨hg1, -, hno⟩
          obtain rfl := hno HX.out
          obtain ⟨k1, k2, k3, k4, k5, k6, k7⟩ := HDX.out.drew.stop HEQ.out.1 HEQ.out.2.1 HEQ.out.2.2 hg1
          have HC := Lib.hid (HCP.out gl ge X.1 [] w1 _ _ k1 k2 k3 k4 k5 k6)
          have HK := Lib.hid k7
          clear hg1 hno k1 k2 k3 k4 k5 k6 k7
          change Leaves _ _ _ P _ _ _
          refine leaves_cons (f := 27) (args := #[.pointer (some ⟨gl, 0, none⟩), .pointer (some ⟨ge, 0, none⟩)]) (by simp) (by simp [go_sem]) ?_
          refine HC.out.mono ?_
          rintro e u' w2 ⟨rfl, rfl, q1, q2, q3⟩
          simp [Leaves, settle, results, Try.results16, go_sem, q1, q2]
          have hgl := HEQ.out.1
          subst hgl
          exact HBAD.out _ _ HTC.out HX.out (HK.out.trans q3)

end Go.Proofs.Ytpknoclnmhomiaa
