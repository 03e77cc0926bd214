/-
  Texts of mine put together, in build order.
  Conditions: as each declaration says.
-/
import Derived.Deep.RegionHeld3
import Derived.Test.YtelfinhpjokmdaaGreatDoorZn4
namespace Go.Proofs.YtelfinhpjokmdaaGreatDoor
set_option maxRecDepth 100000
open Go.RowKit Go.Joins Go.ChangeShapes Go.WideShapes
open Go.MapKept
set_option linter.unusedVariables false
set_option linter.unnecessarySimpa false
set_option linter.unusedSimpArgs false

theorem step_appRun {ops : Array Oper} {o : Oper} {a : Act} {w : World} {K : Act → World → Prop} {Q : Exit → Act → World → Prop} {E : Prop} (hgd : o.guard = none) (s x : Operand) (t : TypeId)
    (ho : o.op = .call { callee := .builtin .append, args := #[s, x], argTypes := #[t, t] }) (v u : Value) (hs : a.eval s = v) (hx : a.eval x = u) {v' : Value} {w' : World}
    (hr : (Builtin.append_ #[t, t] o.type #[v, u]).run Tryz.prog w = .ok v' w') (h : K (a.put o.dst v') w') : if Region.wanted o (yielded ops a.tmps) = true then Oper.wp Tryz.prog o a w K Q else E := by
  have hw : Region.wanted o (yielded ops a.tmps) = true := by simp [Region.wanted, hgd]
  rw [if_pos hw]
  exact Lib.wp_append_run w s x t t ho v u hs hx _ _ hr h
theorem infoS : (Tryz.prog.info? 9).map (fun i => (i.zero, i.size, i.bytes)) = some (some (.string ByteArray.empty), 1, 16) := by kernel_rfl
/-- a text put behind a row of texts -/
theorem run_pushS {w : World} {B : Nat} {v : Value} {l : List (List UInt8)} (h : QS w B v l) (hB : B ≤ w.heap.size) (ad : Addr) (c : Nat) (x : List UInt8) (hx : w.cell? ad = some (.string ⟨x.toArray⟩)) (hsz : l.length + 1 ≤ 4294967296) (ty : TypeId) :
    ∃ v' w', (Builtin.append_ #[67, 67] ty #[v, .slice (some ad) 1 c]).run Tryz.prog w = .ok v' w' ∧ QS w' B v' (l ++ [x]) ∧ w.grownBy w' v.ownBlock ∧ NewO w v v' := by
  obtain ⟨i0, hi, hz0, hz1, hz2⟩ := info_parts infoS
  obtain ⟨v', w', hr, g1, g2, g3⟩ := QR.push16 (P := Tryz.prog) (t := 67) (ty := ty) h hB Tryz.underlying67 hi hz0 hz1 (by omega) rfl ad c _ hx rfl (by rw [List.length_map]; omega)
  refine ⟨v', w', hr, ?_, g2, g3⟩
  unfold QS
  rw [List.map_append]
  exact g1
section
variable {w w1 w2 w3 : World} {B : Nat} {own : Nat → Own} {L : Lay} {S : TS RS}
theorem Mem.congr {S' : TS RS} (h : Mem w B own L S) (e1 : ∀ s u, S'.md s u = S.md s u) (e2 : ∀ s m, S'.cn s m = S.cn s m) (e3 : ∀ s, S'.qu s = S.qu s) (e4 : ∀ s, S'.ex s = S.ex s) (e5 : ∀ t, S'.hs t = S.hs t) (e6 : ∀ t, S'.ws t = S.ws t) : Mem w B own L S' := by
  have : S' = S := by
    cases S; cases S'
    congr
    · exact funext fun s => funext fun u => e1 s u
    · exact funext fun s => funext fun u => e2 s u
    · exact funext fun s => e3 s
    · exact funext fun s => e4 s
    · exact funext fun s => e5 s
    · exact funext fun s => e6 s
  rw [this]
  exact h
/-- a wish written -/
theorem Mem.putW (h : Mem w B own L S) (t : Int) (l : Lv) : ∃ w', (Instr.mapUpdate 50 (.map (some L.bw)) (.int .i64 t) (encL l)).run Tryz.prog w = .ok () w' ∧ Mem w' B own L { S with ws := fun u => if u = t then some l else S.ws u } ∧ Frm (fun k => k = L.bw) w w' := by
  obtain ⟨n1, m1⟩ := h.mt
  obtain ⟨n2, m2⟩ := h.mh
  obtain ⟨n3, m3⟩ := h.mw
  obtain ⟨w', hr, m, gr, -⟩ := m3.put (P := Tryz.prog) (t := 50) Tryz.underlying50 Tryz.underlying3 ik_key ik_inj t (encL l)
  have hf : Frm (fun k => k = L.bw) w w' := Frm.grown (Frm.refl _ w) gr (fun k hk => by injection hk with hk; exact .inl hk.symm)
  have hn : ∀ k o, own k = o → o ≠ .bw → ¬ k = L.bw := fun k o e ho hk => ho (by rw [← e, hk]; exact h.obw)
  have e : (fun k' => if k' = t then some (encL l) else wsV S k') = wsV { S with ws := fun u => if u = t then some l else S.ws u } := funext fun u => by
    unfold wsV
    by_cases c : u = t
    · simp [c]
    · simp [c]
  rw [e] at m
  refine ⟨w', hr, ⟨(hf.heap h.tbl (hn _ _ h.otb (by intro e; cases e))).trans h.box, ⟨n1, m1.step hf (hn _ _ h.obt (by intro e; cases e))⟩, ⟨n2, m2.step hf (hn _ _ h.obh (by intro e; cases e))⟩, ⟨_, m⟩, fun s hs => ?_, h.no, fun u => ?_, h.otb, h.obt, h.obh, h.obw, h.otg, h.otm, h.otq, h.ohr, h.lo⟩, hf⟩
  · exact (h.th s hs).step hf (hn _ _ (h.otg s hs) (by intro e; cases e)) (hn _ _ (h.otm s hs) (by intro e; cases e)) (fun k hk => hn _ _ (h.otq s hs k hk) (by intro e; cases e))
  · exact (h.rw u).step hf (fun k hk => hn _ _ (h.ohr u k hk) (by intro e; cases e))
theorem Mem.delW (h : Mem w B own L S) (t : Int) (ty : TypeId) : ∃ w', (Builtin.delete_ #[50, 3] ty #[.map (some L.bw), .int .i64 t]).run Tryz.prog w = .ok (.tuple #[]) w' ∧ Mem w' B own L { S with ws := fun u => if u = t then none else S.ws u } ∧ Frm (fun k => k = L.bw) w w' := by
  obtain ⟨n1, m1⟩ := h.mt
  obtain ⟨n2, m2⟩ := h.mh
  obtain ⟨n3, m3⟩ := h.mw
  obtain ⟨w', hr, m, gr, -⟩ := m3.del (P := Tryz.prog) (t := 50) (ty := ty) Tryz.underlying50 Tryz.underlying3 ik_key ik_inj t
  have hf : Frm (fun k => k = L.bw) w w' := Frm.grown (Frm.refl _ w) gr (fun k hk => by injection hk with hk; exact .inl hk.symm)
  have hn : ∀ k o, own k = o → o ≠ .bw → ¬ k = L.bw := fun k o e ho hk => ho (by rw [← e, hk]; exact h.obw)
  have e : (fun k' => if k' = t then none else wsV S k') = wsV { S with ws := fun u => if u = t then none else S.ws u } := funext fun u => by
    unfold wsV
    by_cases c : u = t
    · simp [c]
    · simp [c]
  rw [e] at m
  refine ⟨w', hr, ⟨(hf.heap h.tbl (hn _ _ h.otb (by intro e; cases e))).trans h.box, ⟨n1, m1.step hf (hn _ _ h.obt (by intro e; cases e))⟩, ⟨n2, m2.step hf (hn _ _ h.obh (by intro e; cases e))⟩, ⟨_, m⟩, fun s hs => ?_, h.no, fun u => ?_, h.otb, h.obt, h.obh, h.obw, h.otg, h.otm, h.otq, h.ohr, h.lo⟩, hf⟩
  · exact (h.th s hs).step hf (hn _ _ (h.otg s hs) (by intro e; cases e)) (hn _ _ (h.otm s hs) (by intro e; cases e)) (fun k hk => hn _ _ (h.otq s hs k hk) (by intro e; cases e))
  · exact (h.rw u).step hf (fun k hk => hn _ _ (h.ohr u k hk) (by intro e; cases e))
/-- one's row is nobody's any more -/
def ownH (own : Nat → Own) (t : Int) : Nat → Own := fun k => match own k with
  | .hr u => if u = t then .none else .hr u
  | o => o
theorem ownH_ne {own : Nat → Own} {t : Int} {k : Nat} {o : Own} (e : own k = o) (h : o ≠ .hr t) : ownH own t k = o := by
  unfold ownH
  rw [e]
  cases o with
  | hr u =>
    have : u ≠ t := fun c => h (by rw [c])
    simp [this]
  | _ => rfl
theorem ownH_eq {own : Nat → Own} {t : Int} {k : Nat} (e : own k = .hr t) : ownH own t k = .none := by
  unfold ownH
  rw [e]
  simp
theorem ownH_sub {own : Nat → Own} {t : Int} {k : Nat} (h : ownH own t k ≠ .none) : own k ≠ .none := by
  intro e
  apply h
  rw [ownH_ne e (by intro c; cases c)]
theorem Mem.delH (h : Mem w B own L S) (t : Int) (ty : TypeId) : ∃ w', (Builtin.delete_ #[49, 3] ty #[.map (some L.bh), .int .i64 t]).run Tryz.prog w = .ok (.tuple #[]) w' ∧ Mem w' B (ownH own t) { L with hr := fun u => if u = t then none else L.hr u } { S with hs := fun u => if u = t then [] else S.hs u } ∧ Frm (fun k => k = L.bh) w w' ∧
    QS w' B ((L.hr t).getD nilV) (S.hs t) ∧ ∀ k, ((L.hr t).getD nilV).ownBlock = some k → ownH own t k = .none := by
  obtain ⟨n1, m1⟩ := h.mt
  obtain ⟨n2, m2⟩ := h.mh
  obtain ⟨n3, m3⟩ := h.mw
  obtain ⟨w', hr, m, gr, -⟩ := m2.del (P := Tryz.prog) (t := 49) (ty := ty) Tryz.underlying49 Tryz.underlying3 ik_key ik_inj t
  have hf : Frm (fun k => k = L.bh) w w' := Frm.grown (Frm.refl _ w) gr (fun k hk => by injection hk with hk; exact .inl hk.symm)
  have hn : ∀ k o, own k = o → o ≠ .bh → ¬ k = L.bh := fun k o e ho hk => ho (by rw [← e, hk]; exact h.obh)
  have hrw : ∀ u, QS w' B ((L.hr u).getD nilV) (S.hs u) := fun u => (h.rw u).step hf (fun k hk => hn _ _ (h.ohr u k hk) (by intro e; cases e))
  refine ⟨w', hr, ⟨(hf.heap h.tbl (hn _ _ h.otb (by intro e; cases e))).trans h.box, ⟨n1, m1.step hf (hn _ _ h.obt (by intro e; cases e))⟩, ⟨_, m⟩, ⟨n3, m3.step hf (hn _ _ h.obw (by intro e; cases e))⟩, fun s hs => ?_, h.no, fun u => ?_, ownH_ne h.otb (by intro e; cases e), ownH_ne h.obt (by intro e; cases e), ownH_ne h.obh (by intro e; cases e), ownH_ne h.obw (by intro e; cases e), fun s hs => ownH_ne (h.otg s hs) (by intro e; cases e), fun s hs => ownH_ne (h.otm s hs) (by intro e; cases e), fun s hs k hk => ownH_ne (h.otq s hs k hk) (by intro e; cases e), fun u k hk => ?_, fun k hk => h.lo k (ownH_sub hk)⟩, hf, hrw t, fun k hk => ownH_eq (h.ohr t k hk)⟩
  · exact (h.th s hs).step hf (hn _ _ (h.otg s hs) (by intro e; cases e)) (hn _ _ (h.otm s hs) (by intro e; cases e)) (fun k hk => hn _ _ (h.otq s hs k hk) (by intro e; cases e))
  · show QS w' B ((if u = t then none else L.hr u).getD nilV) (if u = t then [] else S.hs u)
    by_cases c : u = t
    · rw [if_pos c, if_pos c]; exact QR.nil _ _ _
    · rw [if_neg c, if_neg c]; exact hrw u
  · have hk' : ((if u = t then none else L.hr u).getD nilV).ownBlock = some k := hk
    by_cases c : u = t
    · rw [if_pos c] at hk'; cases hk'
    · rw [if_neg c] at hk'
      exact ownH_ne (h.ohr u k hk') (by intro e; injection e with e; exact c e)
/-- one more in one's row -/
theorem Mem.putH (h : Mem w B own L S) (t : Int) {s : RS} {v' : Value} (h1 : Below w.heap.size w w1) (q : QS w2 B v' (S.hs t ++ [s])) (g : w1.grownBy w2 ((L.hr t).getD nilV).ownBlock) (nn : NewO w1 ((L.hr t).getD nilV) v') :
    ∃ w3, (Instr.mapUpdate 49 (.map (some L.bh)) (.int .i64 t) v').run Tryz.prog w2 = .ok () w3 ∧ Mem w3 B (ownN own w.heap.size w3.heap.size (.hr t)) { L with hr := fun u => if u = t then some v' else L.hr u } { S with hs := fun u => if u = t then S.hs t ++ [s] else S.hs u } ∧ Stp w own w3 (ownN own w.heap.size w3.heap.size (.hr t)) ∧ Frm (fun k => ((L.hr t).getD nilV).ownBlock = some k ∨ k = L.bh) w w3 := by
  have hM1 := h.below h1
  have f2 : Frm (fun k => ((L.hr t).getD nilV).ownBlock = some k) w1 w2 := Frm.grown (F := fun k => ((L.hr t).getD nilV).ownBlock = some k) (Frm.refl _ w1) g (fun k hk => .inl hk)
  obtain ⟨n2, m2⟩ := hM1.mh
  have hnb : ¬ ((L.hr t).getD nilV).ownBlock = some L.bh := fun e => by have := h.ohr t _ e; rw [h.obh] at this; cases this
  have m2' := m2.step f2 hnb
  obtain ⟨w3, hr, m, gr, hz⟩ := m2'.put (P := Tryz.prog) (t := 49) Tryz.underlying49 Tryz.underlying3 ik_key ik_inj t v'
  have f3 : Frm (fun k => k = L.bh) w2 w3 := Frm.grown (Frm.refl _ w2) gr (fun k hk => by injection hk with hk; exact .inl hk.symm)
  have hF : Frm (fun k => ((L.hr t).getD nilV).ownBlock = some k ∨ k = L.bh) w w3 := (((Frm.of_below h1).trans f2 (fun k hk => .inl hk)).mono (F1 := fun k => ((L.hr t).getD nilV).ownBlock = some k ∨ k = L.bh) fun k hk => .inl hk).trans (f3.mono (F1 := fun k => ((L.hr t).getD nilV).ownBlock = some k ∨ k = L.bh) fun k hk => .inr hk) (New.refl _ _)
  have hn : ∀ k o, own k = o → o ≠ .bh → o ≠ .hr t → ¬ (((L.hr t).getD nilV).ownBlock = some k ∨ k = L.bh) := fun k o e h1 h2 hk => by
    rcases hk with hk | hk
    · exact h2 (by rw [← e]; exact h.ohr t k hk)
    · exact h1 (by rw [← e, hk]; exact h.obh)
  have hold : ∀ k o, own k = o → k < w.heap.size → ownN own w.heap.size w3.heap.size (.hr t) k = o := fun k o e hk => by rw [ownN_old hk]; exact e
  have hs1 := h1.size
  have hvb : ∀ k, v'.ownBlock = some k → k ≠ L.bh ∧ (((L.hr t).getD nilV).ownBlock = some k ∨ w.heap.size ≤ k) ∧ k < w3.heap.size := fun k hk => by
    have hlt := (q.lt k hk).2
    refine ⟨fun e => ?_, ?_, by omega⟩
    · obtain ⟨es, c, h1', -⟩ := m2'
      rcases q with ⟨rfl, -⟩ | ⟨g', o, cap, cur, rfl, q2, q3, -⟩
      · cases hk
      · simp only [Value.ownBlock, Option.some.injEq] at hk
        subst hk
        rw [e] at q3
        rw [q3] at h1'
        injection h1' with h1'
        cases h1'
    · rcases nn k hk with e | e
      · exact .inl e
      · exact .inr (by omega)
  obtain ⟨n1, m1⟩ := h.mt
  obtain ⟨n3, m3⟩ := h.mw
  refine ⟨w3, hr, ⟨(hF.heap h.tbl (hn _ _ h.otb (by intro e; cases e) (by intro e; cases e))).trans h.box, ⟨n1, m1.step hF (hn _ _ h.obt (by intro e; cases e) (by intro e; cases e))⟩, ⟨_, m⟩, ⟨n3, m3.step hF (hn _ _ h.obw (by intro e; cases e) (by intro e; cases e))⟩, fun s' hs => ?_, h.no, fun u => ?_, hold _ _ h.otb h.tbl, hold _ _ h.obt h.btl, hold _ _ h.obh h.bhl, hold _ _ h.obw h.bwl, fun s' hs' => hold _ _ (h.otg s' hs') (h.tgl hs'), fun s' hs' => hold _ _ (h.otm s' hs') (h.tml hs'), fun s' hs' k hk => hold _ _ (h.otq s' hs' k hk) (h.tql hs' k hk), fun u k hk => ?_, fun k hk => ?_⟩, Stp.newN hF fun k hk e => ?_, hF⟩
  · exact (h.th s' hs).step hF (hn _ _ (h.otg s' hs) (by intro e; cases e) (by intro e; cases e)) (hn _ _ (h.otm s' hs) (by intro e; cases e) (by intro e; cases e)) (fun k hk => hn _ _ (h.otq s' hs k hk) (by intro e; cases e) (by intro e; cases e))
  · show QS w3 B ((if u = t then some v' else L.hr u).getD nilV) (if u = t then S.hs t ++ [s] else S.hs u)
    by_cases c : u = t
    · rw [if_pos c, if_pos c]
      exact q.step f3 (fun k hk e => (hvb k hk).1 e)
    · rw [if_neg c, if_neg c]
      exact (h.rw u).step hF (fun k hk => hn _ _ (h.ohr u k hk) (by intro e; cases e) (by intro e; injection e with e; exact c e))
  · have hk' : ((if u = t then some v' else L.hr u).getD nilV).ownBlock = some k := hk
    by_cases c : u = t
    · rw [if_pos c] at hk'
      obtain ⟨-, e, e2⟩ := hvb k hk'
      rw [c]
      rcases e with e | e
      · exact hold _ _ (h.ohr t k e) (h.hrl t k e)
      · exact ownN_new e e2
    · rw [if_neg c] at hk'
      exact hold _ _ (h.ohr u k hk') (h.hrl u k hk')
  · unfold ownN at hk
    split at hk
    · rename_i c; exact Nat.le_trans h.bB c.1
    · exact h.lo k hk
  · rcases hk with g | g
    · have := h.ohr t k g; rw [e] at this; cases this
    · rw [g, h.obh] at e; cases e
end

end Go.Proofs.YtelfinhpjokmdaaGreatDoor

namespace Go.Proofs.YtelfinhpjokmdaaGreatDoor
set_option maxRecDepth 100000
set_option linter.unusedVariables false
set_option linter.unusedSectionVars false
set_option linter.unnecessarySimpa false
set_option linter.unusedSimpArgs false

section
variable {R : Type} [DecidableEq R] (O : OrdR R) (M : Mds)
theorem RelP.congr {T : TbL R} {S S' : TS R} {t : Int} {rest rx : List R} {m0 : R → Int} (h : RelP T S t rest rx m0) (e1 : ∀ s u, S'.md s u = S.md s u) (e2 : ∀ s m, S'.cn s m = S.cn s m) (e3 : ∀ s, S'.qu s = S.qu s) (e4 : ∀ s, S'.ex s = S.ex s) (e5 : ∀ t, S'.hs t = S.hs t) (e6 : ∀ t, S'.ws t = S.ws t) : RelP T S' t rest rx m0 := by
  have : S' = S := by
    cases S; cases S'
    congr
    · exact funext fun s => funext fun u => e1 s u
    · exact funext fun s => funext fun u => e2 s u
    · exact funext fun s => e3 s
    · exact funext fun s => e4 s
    · exact funext fun s => e5 s
    · exact funext fun s => e6 s
  rw [this]
  exact h
/-- a state with one queue turned -/
def setQ (S : TS R) (s : R) (q : List (Lk R)) : TS R where
  md := S.md
  cn := S.cn
  qu s' := if s' = s then q else S.qu s'
  ex := S.ex
  hs := S.hs
  ws := S.ws
/-- a state with one wish out -/
def delWs (S : TS R) (t : Int) : TS R where
  md := S.md
  cn := S.cn
  qu := S.qu
  ex := S.ex
  hs := S.hs
  ws u := if u = t then none else S.ws u
omit [DecidableEq R] in
theorem wsh_fgt (W : List (Ws R)) (t u : Int) : wsh (fgt W t) u = if u = t then none else wsh W u := by
  unfold wsh fgt
  by_cases c : u = t
  · subst c
    rw [if_pos rfl]
    rw [Option.map_eq_none_iff, List.find?_eq_none]
    intro w hw
    have := (List.mem_filter.1 hw).2
    simpa using this
  · rw [if_neg c, List.find?_filter]
    congr 2
    funext w
    by_cases e : w.l.txn = u
    · simp [e, c]
    · simp [e]
/-- the first of a queue granted -/
theorem RelP.pop {T : TbL R} {S : TS R} {t : Int} {rest rx : List R} {m0 : R → Int} {s : R} {l : Lk R} {q : List (Lk R)} (h : RelP T (setQ S s (l :: q)) t rest rx m0) (hb : BasL O M T) (hs : s ∉ rest) :
    l.res = s ∧ M.right l.mode = true ∧ que T.wt s = l :: q ∧ RelP ⟨gv O l T.hv, fgt T.wt l.txn⟩ (setQ (delWs (grantS S l) l.txn) s q) t rest rx m0 := by
  have hq : que T.wt s = l :: q := by rw [← h.qu s hs]; unfold setQ; simp
  obtain ⟨hr, w, hw, rfl⟩ := mem_que.1 (show l ∈ que T.wt s by rw [hq]; exact List.mem_cons_self ..)
  have hm := hb.wr w hw
  refine ⟨hr, hm, hq, ?_⟩
  have hg := h.grant O M hb (l := w.l) (by rw [hr]; exact hs) (M.pos _ hm)
  have ho : ∀ s', s' ≠ s → que (fgt T.wt w.l.txn) s' = que T.wt s' := fun s' hn => que_other hb.one fun u hu e => by
    rw [One.eq hb.one hu hw e, hr]; exact hn.symm
  refine ⟨hg.md, hg.cn, fun s' hs' => ?_, fun s' hs' => ?_, hg.ex, hg.nd, hg.hs, fun u => ?_⟩
  · have hne : s' ≠ s := fun e => hs (e ▸ hs')
    have := h.qr s' hs'
    show List.filter _ (if s' = s then q else S.qu s') = que (fgt T.wt w.l.txn) s'
    rw [if_neg hne, ho s' hne, ← this]
    show _ = List.filter _ (if s' = s then w.l :: q else S.qu s')
    rw [if_neg hne]
  · show (if s' = s then q else S.qu s') = que (fgt T.wt w.l.txn) s'
    by_cases e : s' = s
    · subst e
      rw [if_pos rfl]
      exact (que_head hb.one hq).symm
    · rw [if_neg e, ho s' e, ← h.qu s' hs']
      show _ = (if s' = s then w.l :: q else S.qu s')
      rw [if_neg e]
  · show (if u = w.l.txn then none else S.ws u) = wsh (fgt T.wt w.l.txn) u
    rw [wsh_fgt]
    by_cases e : u = w.l.txn
    · rw [if_pos e, if_pos e]
    · rw [if_neg e, if_neg e]
      exact h.ws u
/-- how many locks and wishes -/
def sizT (T : TbL R) : Nat := T.hv.length + T.wt.length
theorem gv_length (l : Lk R) : ∀ H : List (Lk R), (gv O l H).length ≤ H.length + 1
  | [] => by simp [gv]
  | h :: r => by
    have := gv_length l r
    unfold gv
    split
    · simp
    · split
      · simp
      · simp; omega
theorem fgt_length {W : List (Ws R)} {w : Ws R} (hw : w ∈ W) : (fgt W w.l.txn).length + 1 ≤ W.length := by
  unfold fgt
  induction W with
  | nil => cases hw
  | cons a r ih =>
    by_cases c : a.l.txn = w.l.txn
    · rw [List.filter_cons_of_neg (by simpa using c), List.length_cons]
      have := List.length_filter_le (fun w' : Ws R => !decide (w'.l.txn = w.l.txn)) r
      omega
    · rw [List.filter_cons_of_pos (by simpa using c), List.length_cons, List.length_cons]
      rcases List.mem_cons.1 hw with e | e
      · rw [e] at c; exact absurd rfl c
      · have := ih e; omega
theorem siz_pop {T : TbL R} {s : R} {l : Lk R} {q : List (Lk R)} (hq : que T.wt s = l :: q) : sizT ⟨gv O l T.hv, fgt T.wt l.txn⟩ ≤ sizT T := by
  obtain ⟨hr, w, hw, rfl⟩ := mem_que.1 (show l ∈ que T.wt s by rw [hq]; exact List.mem_cons_self ..)
  have h1 := gv_length O w.l T.hv
  have h2 := fgt_length hw
  unfold sizT
  show (gv O w.l T.hv).length + (fgt T.wt w.l.txn).length ≤ _
  omega
theorem siz_ask (T : TbL R) (t : Int) (s : R) (m : Int) : sizT (askL O M T t s m).1 ≤ sizT T + 1 := by
  unfold askL
  split
  · exact Nat.le_succ _
  · split
    · exact Nat.le_succ _
    · split
      · have := gv_length O ⟨t, s, M.jn (mdO T.hv t s) m⟩ T.hv
        unfold sizT
        show (gv O _ T.hv).length + T.wt.length ≤ _
        omega
      · unfold sizT
        show T.hv.length + (T.wt ++ [_]).length ≤ _
        rw [List.length_append]
        simp
        omega
theorem two_filter {α : Type} (p : α → Bool) : ∀ l : List α, (l.filter p).length + (l.filter fun x => !p x).length = l.length
  | [] => rfl
  | a :: l => by
    have := two_filter p l
    cases h : p a with
    | true =>
      rw [List.filter_cons_of_pos h, List.filter_cons_of_neg (by simp [h]), List.length_cons, List.length_cons]
      omega
    | false =>
      rw [List.filter_cons_of_neg (by simp [h]), List.filter_cons_of_pos (by simp [h]), List.length_cons, List.length_cons]
      omega
theorem nodup_lenR {α : Type} [DecidableEq α] : ∀ (l A : List α), l.Nodup → (∀ x ∈ l, x ∈ A) → l.length ≤ A.length
  | [], _, _, _ => Nat.zero_le _
  | x :: r, A, h, hs => by
    have h1 := List.nodup_cons.1 h
    have hx := hs x (List.mem_cons_self ..)
    have := nodup_lenR r (A.erase x) h1.2 fun y hy => (List.mem_erase_of_ne (fun e : y = x => h1.1 (by rw [← e]; exact hy))).2 (hs y (List.mem_cons_of_mem _ hy))
    rw [List.length_erase_of_mem hx] at this
    have := List.length_pos_of_mem hx
    rw [List.length_cons]
    omega
theorem que_le (W : List (Ws R)) (s : R) : (que W s).length ≤ W.length := by
  unfold que
  rw [List.length_map, List.length_append, two_filter]
  exact List.length_filter_le _ _
/-- what bounds the counts and the rows -/
theorem RelP.bounds {T : TbL R} {S : TS R} {t : Int} {rest rx : List R} {m0 : R → Int} (h : RelP T S t rest rx m0) (hb : BasL O M T) : (∀ s m, S.cn s m ≤ T.hv.length + 1) ∧ (∀ u, (S.hs u).length ≤ T.hv.length) := by
  refine ⟨fun s m => ?_, fun u => ?_⟩
  · rw [h.cn]
    have : cntM T.hv s (m : Int) ≤ T.hv.length := by unfold cntM; exact List.countP_le_length
    split <;> omega
  · have := nodup_lenR (S.hs u) (T.hv.map fun x => x.res) (h.nd u) (fun s hs => by
      obtain ⟨x, hx, -, e⟩ := (h.hs u s).1 hs
      exact List.mem_map.2 ⟨x, hx, e⟩)
    rw [List.length_map] at this
    exact this
theorem RelP.pos {T : TbL R} {S : TS R} {t : Int} {rest rx : List R} {m0 : R → Int} (h : RelP T S t rest rx m0) (hb : BasL O M T) (hM : ∀ m, M.right m = true → 0 < m ∧ m < 7) {s : R} (hs : s ∉ rest) (u : Int) : (S.md s u = 0 ∨ (0 < S.md s u ∧ S.md s u < 7)) ∧ (S.md s u ≠ 0 → 0 < S.cn s (S.md s u).toNat) := by
  have hmd : S.md s u = mdO T.hv u s := by rw [h.md, if_neg (fun e => hs e.1)]
  by_cases z : mdO T.hv u s = 0
  · exact ⟨.inl (by rw [hmd]; exact z), fun e => absurd (by rw [hmd]; exact z) e⟩
  · have hr := hb.rt _ (mdO_mem z)
    have h7 := hM _ hr
    have h7' : 0 < mdO T.hv u s ∧ mdO T.hv u s < 7 := h7
    refine ⟨.inr (by rw [hmd]; exact h7'), fun _ => ?_⟩
    rw [hmd, h.cn]
    have : 0 < cntM T.hv s (((mdO T.hv u s).toNat : Nat) : Int) := by
      rw [cnt_pos]
      exact ⟨_, mdO_mem z, rfl, by show mdO T.hv u s = _; omega⟩
    omega
end

end Go.Proofs.YtelfinhpjokmdaaGreatDoor

namespace Go.Proofs.YtelfinhpjokmdaaGreatDoor
set_option maxRecDepth 100000
open Go.RowKit Go.Joins Go.ChangeShapes Go.WideShapes
open Go.MapKept
set_option linter.unusedVariables false
set_option linter.unnecessarySimpa false
set_option linter.unusedSimpArgs false

section
variable {w w1 : World} {B : Nat} {own : Nat → Own} {L : Lay} {S : TS RS}
/-- what a call leaves of the table: the same things at the same places -/
def GrA (L L' : Lay) : Prop := L'.tb = L.tb ∧ L'.tg = L.tg ∧ L'.tm = L.tm ∧ L'.bw = L.bw ∧ L'.bt = L.bt ∧ ∀ s, L'.tq s = L.tq s
theorem GrA.refl (L : Lay) : GrA L L := ⟨rfl, rfl, rfl, rfl, rfl, fun _ => rfl⟩
theorem GrA.trans {L L1 L2 : Lay} (h : GrA L L1) (g : GrA L1 L2) : GrA L L2 := ⟨g.1.trans h.1, g.2.1.trans h.2.1, g.2.2.1.trans h.2.2.1, g.2.2.2.1.trans h.2.2.2.1, g.2.2.2.2.1.trans h.2.2.2.2.1, fun s => (g.2.2.2.2.2 s).trans (h.2.2.2.2.2 s)⟩
theorem cell_lt {w1 w2 : World} {b o : Nat} {v : Value} (h : w1.cell? ⟨b, o, none⟩ = some v) (hb : Below w1.heap.size w1 w2) : w2.cell? ⟨b, o, none⟩ = some v := (hb.cell (p := ⟨b, o, none⟩) (World.block_lt_of_cell? _ _ h)).trans h
set_option maxHeartbeats 4000000 in
theorem grant_any (h : Mem w B own L S) (l : Lv) (hs : S.ex l.res = true) (hr : S.md l.res l.txn = 0 ∨ (0 < S.md l.res l.txn ∧ S.md l.res l.txn < 7)) (hp : S.md l.res l.txn ≠ 0 → 0 < S.cn l.res (S.md l.res l.txn).toNat) (hN : ∀ m, S.cn l.res m ≤ 4294967296) (hm1 : 0 < l.mode) (hm2 : l.mode < 7) (hh : (S.hs l.txn).length ≤ 4294967295) :
    Calls Tryz.prog 21 #[.pointer (some ⟨L.tb, 0, none⟩), .pointer (some ⟨L.tg l.res, 0, none⟩), encL l] w fun e w' => e = .returned (.tuple #[]) ∧ ∃ own' L', GrA L L' ∧ Mem w' B own' L' (grantS S l) ∧ Stp w own w' own' := by
  generalize hP : (fun (e : Ending) (w' : World) => e = .returned (.tuple #[]) ∧ ∃ own' L', GrA L L' ∧ Mem w' B own' L' (grantS S l) ∧ Stp w own w' own') = P
  have HP := Lib.hid hP
  clear hP
  unfold encL
  obtain ⟨b0, hb0⟩ : ∃ n, w.heap.size = n := ⟨_, rfl⟩
  obtain ⟨W1, hW1⟩ : ∃ W1, w.alloc (.cells #[.int .i64 l.txn, .string ⟨l.res.toArray⟩, .int .i64 l.mode] 42) = W1 := ⟨_, rfl⟩
  have hb1 : Below w.heap.size w W1 := by rw [← hW1]; exact (Below.refl _ _).alloc (Nat.le_refl _) _
  have hx1 : W1.heap[b0]? = some (.cells #[.int .i64 l.txn, .string ⟨l.res.toArray⟩, .int .i64 l.mode] 42 (0, 0)) := by rw [← hW1, ← hb0]; exact heap_alloc_new w _
  have hl1 := (Array.getElem?_eq_some_iff.1 hx1).1
  have h1 := h.below hb1
  have e0 : W1.cell? ⟨b0, 0, none⟩ = some (.int .i64 l.txn) := by rw [cell_of_block hx1]; rfl
  have e1 : W1.cell? ⟨b0, 1, none⟩ = some (.string ⟨l.res.toArray⟩) := by rw [cell_of_block hx1]; rfl
  have e2 : W1.cell? ⟨b0, 2, none⟩ = some (.int .i64 l.mode) := by rw [cell_of_block hx1]; rfl
  have HHAS := Lib.hid (has_any (h1.th l.res hs) l.txn)
  have HS1 := Lib.hid (Stp.of_below (own := own) hb1)
  have HX1 := Lib.hid hx1
  -- the thing's own part, from any world behind the row's
  have HGV := Lib.hid (fun (wx : World) (own' : Nat → Own) (L' : Lay) (hs' : Int → List RS) (hM : Mem wx B own' L' { S with hs := hs' }) (hL : GrA L L') (hst : Stp w own wx own') (hhs : ∀ u, hs' u = if u = l.txn ∧ S.md l.res l.txn = 0 then S.hs u ++ [l.res] else S.hs u) =>
    (give_any (hM.th l.res hs) l.txn l.mode hr hp hN hm1 hm2).mono (R' := fun e w' => e = .returned (.tuple #[]) ∧ P e w') (by
      rintro e w5 ⟨rfl, ht, hf⟩
      refine ⟨rfl, ?_⟩
      rw [← HP.out]
      obtain ⟨g1, g2⟩ := hM.upd hs hf (fun k hk => by rcases hk with e | e; (left; rw [e]; exact hM.otg l.res hs); (right; left; rw [e]; exact hM.otm l.res hs)) ht (fun k hk => .inl hk)
      refine ⟨rfl, _, _, ?_, g1.congr (fun s u => ?_) (fun s m => ?_) (fun s => ?_) (fun s => ?_) (fun u => ?_) (fun u => rfl), hst.trans g2⟩
      · obtain ⟨q1, q2, q3, q4, q5, q6⟩ := hL
        refine ⟨q1, q2, q3, q4, q5, fun s => ?_⟩
        show (if s = l.res then L'.tq l.res else L'.tq s) = L.tq s
        by_cases c : s = l.res
        · rw [if_pos c, c]; exact q6 _
        · rw [if_neg c]; exact q6 _
      · show (if s = l.res ∧ u = l.txn then l.mode else S.md s u) = (if s = l.res then (fun u => if u = l.txn then l.mode else S.md l.res u) else S.md s) u
        by_cases c : s = l.res
        · subst c; rw [if_pos rfl]
          by_cases c2 : u = l.txn
          · rw [if_pos ⟨rfl, c2⟩, if_pos c2]
          · rw [if_neg (fun e => c2 e.2), if_neg c2]
        · rw [if_neg c, if_neg (fun e => c e.1)]
      · show (if s = l.res then othC (S.cn s) (S.md s l.txn) m + (if l.mode = (m : Int) then 1 else 0) else S.cn s m) = (if s = l.res then (fun m => othC (S.cn l.res) (S.md l.res l.txn) m + if l.mode = (m : Int) then 1 else 0) else S.cn s) m
        by_cases c : s = l.res
        · subst c; rw [if_pos rfl, if_pos rfl]
        · rw [if_neg c, if_neg c]
      · show S.qu s = if s = l.res then S.qu l.res else S.qu s
        by_cases c : s = l.res
        · rw [if_pos c, c]
        · rw [if_neg c]
      · show (if s = l.res then true else S.ex s) = S.ex s
        by_cases c : s = l.res
        · rw [if_pos c, c, hs]
        · rw [if_neg c]
      · exact (hhs u).symm))
  have HLT := Lib.hid (show L.tb < W1.heap.size ∧ b0 < W1.heap.size from ⟨h1.tbl, hl1⟩)
  by_cases cz : S.md l.res l.txn = 0
  · have hdz : (!decide (S.md l.res l.txn = 0)) = false := by simp [cz]
    rw [hdz] at HHAS
    obtain ⟨t0, t1, t2⟩ := h1.cells
    obtain ⟨v0, hv0⟩ : ∃ v, (L.hr l.txn).getD nilV = v := ⟨_, rfl⟩
    have hl2 := h1.lookH l.txn
    have hba : Below W1.heap.size W1 (W1.alloc (.cells #[.string ⟨l.res.toArray⟩] 9)).drew := ((Below.refl _ W1).alloc (Nat.le_refl _) _).drew
    have hl3 := (h1.below hba).lookH l.txn
    have hl4 := (h1.below ((Below.refl _ W1).drew)).lookH l.txn
    rw [hv0] at hl2 hl3 hl4
    have HQ := Lib.hid ((h1.below hba).rw l.txn)
    rw [hv0] at HQ
    have HSZ := Lib.hid (show B ≤ (W1.alloc (.cells #[.string ⟨l.res.toArray⟩] 9)).drew.heap.size from Nat.le_trans h1.bB hba.size)
    have HAP := Lib.hid (fun ty => run_pushS HQ.out HSZ.out ⟨W1.heap.size, 0, none⟩ 1 l.res (by rw [cell_of_block (w := (W1.alloc (.cells #[.string ⟨l.res.toArray⟩] 9)).drew) (heap_alloc_new W1 _)]; rfl) (by omega) ty)
    have HPUT := Lib.hid (fun w8 v1 (q : QS w8 B v1 (S.hs l.txn ++ [l.res])) (g : (W1.alloc (.cells #[.string ⟨l.res.toArray⟩] 9)).drew.grownBy w8 v0.ownBlock) (nn : NewO (W1.alloc (.cells #[.string ⟨l.res.toArray⟩] 9)).drew v0 v1) =>
      h1.putH l.txn hba q (by rw [hv0]; exact g) (by rw [hv0]; exact nn))
    have HC8 := Lib.hid (fun w8 (g : (W1.alloc (.cells #[.string ⟨l.res.toArray⟩] 9)).drew.grownBy w8 v0.ownBlock) => show w8.cell? ⟨L.tb, 1, none⟩ = some (.map (some L.bh)) ∧ w8.cell? ⟨b0, 0, none⟩ = some (.int .i64 l.txn) ∧ w8.cell? ⟨b0, 1, none⟩ = some (.string ⟨l.res.toArray⟩) by
      have hf : Frm (fun k => v0.ownBlock = some k) (W1.alloc (.cells #[.string ⟨l.res.toArray⟩] 9)).drew w8 := Frm.grown (F := fun k => v0.ownBlock = some k) (Frm.refl _ _) g (fun k hk => .inl hk)
      have hn1 : ¬ v0.ownBlock = some L.tb := fun e => by rw [← hv0] at e; have := h.ohr _ _ e; rw [h.otb] at this; cases this
      have hn2 : ¬ v0.ownBlock = some b0 := fun e => by rw [← hv0] at e; have := h.hrl _ _ e; omega
      exact ⟨by rw [hf.cell (Nat.lt_of_lt_of_le h1.tbl hba.size) hn1]; exact cell_lt t1 hba, by rw [hf.cell (Nat.lt_of_lt_of_le hl1 hba.size) hn2]; exact cell_lt e0 hba, by rw [hf.cell (Nat.lt_of_lt_of_le hl1 hba.size) hn2]; exact cell_lt e1 hba⟩)
    have HC9 := Lib.hid (fun (w9 : World) (hf : Frm (fun k => ((L.hr l.txn).getD nilV).ownBlock = some k ∨ k = L.bh) W1 w9) => show w9.cell? ⟨b0, 0, none⟩ = some (.int .i64 l.txn) ∧ w9.cell? ⟨b0, 2, none⟩ = some (.int .i64 l.mode) ∧ w9.cell? ⟨b0, 1, none⟩ = some (.string ⟨l.res.toArray⟩) ∧ w9.cell? ⟨L.tb, 1, none⟩ = some (.map (some L.bh)) by
      have hn : ¬ (((L.hr l.txn).getD nilV).ownBlock = some b0 ∨ b0 = L.bh) := fun e => by
        rcases e with e | e
        · have := h.hrl _ _ e; omega
        · have := h.bhl; omega
      have hn2 : ¬ (((L.hr l.txn).getD nilV).ownBlock = some L.tb ∨ L.tb = L.bh) := fun e => by
        rcases e with e | e
        · have := h.ohr _ _ e; rw [h.otb] at this; cases this
        · have := h.otb; rw [e, h.obh] at this; cases this
      exact ⟨by rw [hf.cell hl1 hn]; exact e0, by rw [hf.cell hl1 hn]; exact e2, by rw [hf.cell hl1 hn]; exact e1, by rw [hf.cell h1.tbl hn2]; exact t1⟩)
    have HGA := Lib.hid (show ∀ f : Int → Option Value, GrA L { L with hr := f } from fun f => ⟨rfl, rfl, rfl, rfl, rfl, fun _ => rfl⟩)
    have HCZ := Lib.hid cz
    have e0' := cell_lt e0 hba
    have e1' := cell_lt e1 hba
    have t1' := cell_lt t1 hba
    have lb : L.tb < W1.heap.size := HLT.out.1
    have l0 : b0 < W1.heap.size := HLT.out.2
    clear h h1 hb1 hx1 hr hp hN hh cz hdz hba t0 t2 hv0 hl1
    go_enter Tryz.func21, Tryz.ntmps21
    go_upto_region 1 with fail
    try rw [hb0]
    try rw [hW1]
    clear hW1
    go_wp2_with fail
    refine HHAS.out.mono ?_
    rintro e w3 ⟨rfl, rfl⟩
    go_wp2_with fail
    go_region_held3 (fun w0 => w0.cell? ⟨L.tb, 1, none⟩ = some (.map (some L.bh)) ∧ w0.cell? ⟨b0, 0, none⟩ = some (.int .i64 l.txn) ∧ w0.cell? ⟨b0, 1, none⟩ = some (.string ⟨l.res.toArray⟩))
      (first | exact ⟨t1, e0, e1⟩ | exact ⟨t1', e0', e1'⟩ | exact ⟨c8, c8', c8''⟩ | exact ⟨x3, x0, x4⟩)
      (first | (obtain ⟨v1, w8, hrun, q1, g1, n1⟩ := HAP.out _; refine step_appRun rfl _ _ 67 rfl v0 (.slice (some ⟨W1.heap.size, 0, none⟩) 1 1) rfl rfl hrun ?_; obtain ⟨c8, c8', c8''⟩ := HC8.out w8 g1; obtain ⟨w9, hr9, hM9, hst9, hf9⟩ := HPUT.out w8 v1 q1 g1 n1; obtain ⟨x0, x2, x4, x3⟩ := HC9.out w9 hf9; have HM9 := Lib.hid hM9; have HS9 := Lib.hid hst9; clear q1 g1 n1 hM9 hst9 hf9))
    all_goals
      go_wp2_with fail
      refine (HGV.out _ _ _ _ HM9.out (HGA.out _) (HS1.out.trans HS9.out) (fun u => by
        by_cases c : u = l.txn
        · simp [c, HCZ.out]
        · simp [c])).mono ?_
      rintro e w5 ⟨rfl, hp5⟩
      have HF := Lib.hid hp5
      clear hp5
      go_wp2_with fail
      exact bodyPost_ret (v := .tuple #[]) (by simp [results, Tryz.results21, go_sem]) rfl HF.out
  · have hdz : (!decide (S.md l.res l.txn = 0)) = true := by simp [cz]
    rw [hdz] at HHAS
    have HG := Lib.hid (HGV.out W1 own L S.hs (h1.congr (fun _ _ => rfl) (fun _ _ => rfl) (fun _ => rfl) (fun _ => rfl) (fun _ => rfl) (fun _ => rfl)) (GrA.refl L) HS1.out (fun u => by rw [if_neg (fun e => cz e.2)]))
    clear h h1 hb1 hx1 hr hp hN hh cz hdz HGV
    go_enter Tryz.func21, Tryz.ntmps21
    go_upto_region 1 with fail
    try rw [hb0]
    try rw [hW1]
    clear hW1
    go_wp2_with fail
    refine HHAS.out.mono ?_
    rintro e w3 ⟨rfl, rfl⟩
    go_wp2_with fail
    refine HG.out.mono ?_
    rintro e w5 ⟨rfl, hp5⟩
    have HF := Lib.hid hp5
    clear hp5
    go_wp2_with fail
    exact bodyPost_ret (v := .tuple #[]) (by simp [results, Tryz.results21, go_sem]) rfl HF.out
end

end Go.Proofs.YtelfinhpjokmdaaGreatDoor

namespace Go.Proofs.YtelfinhpjokmdaaGreatDoor
set_option maxRecDepth 100000
open Go.RowKit Go.Joins Go.ChangeShapes Go.WideShapes
open Go.MapKept
set_option linter.unusedVariables false
set_option linter.unnecessarySimpa false
set_option linter.unusedSimpArgs false

/-- the modes' tables lie below B -/
structure TbB (w : World) (B : Nat) : Prop where
  t : Tabs w
  l1 : 1 < B
  l2 : 0 < B
theorem TabB.frm {F : Bl} {w w1 : World} {g : Nat} {T : List (List Bool)} (h : TabB w g T) (hf : Frm F w w1) (hg : ¬ F g) : TabB w1 g T :=
  ⟨Nat.lt_of_lt_of_le h.1 hf.size, fun i j hi hj => (hf.cell h.1 hg _).trans (h.2 i j hi hj)⟩
theorem TbB.frm {F : Bl} {w w1 : World} {B : Nat} (h : TbB w B) (hf : Frm F w w1) (hg : ∀ k, F k → B ≤ k) : TbB w1 B :=
  ⟨⟨h.t.1.frm hf (fun e => by have := hg _ e; have := h.l1; omega), h.t.2.frm hf (fun e => by have := hg _ e; have := h.l2; omega)⟩, h.l1, h.l2⟩
theorem TbB.below {w w1 : World} {B : Nat} (h : TbB w B) (hb : Below w.heap.size w w1) : TbB w1 B := h.frm (F := fun _ => False) (Frm.of_below hb) (fun _ h => h.elim)
def HiO (w : World) (own : Nat → Own) : Prop := ∀ k, own k ≠ .none → k < w.heap.size
theorem HiO.below {w w1 : World} {own : Nat → Own} (h : HiO w own) (hb : w.heap.size ≤ w1.heap.size) : HiO w1 own := fun k hk => Nat.lt_of_lt_of_le (h k hk) hb
theorem Stp.hi {w w1 : World} {own own1 : Nat → Own} (h : Stp w own w1 own1) (g : HiO w own) : HiO w1 own1 := fun k hk => by
  rcases h.new k hk with e | e
  · exact Nat.lt_of_lt_of_le (g k e) h.frm.size
  · exact e.2
/-- what is nobody's stays nobody's -/
theorem Stp.free {w w1 : World} {own own1 : Nat → Own} (h : Stp w own w1 own1) {k : Nat} (hk : own k = .none) (hl : k < w.heap.size) : own1 k = .none := by
  refine Classical.byContradiction fun c => ?_
  rcases h.new k c with e | e
  · exact e hk
  · omega
theorem Stp.grow {w0 w w1 : World} {own0 own : Nat → Own} {F : Bl} (h : Stp w0 own0 w own) (hf : Frm F w w1) (hF : ∀ k, F k → own0 k ≠ .none ∨ own k ≠ .none ∨ w0.heap.size ≤ k) : Stp w0 own0 w1 own := by
  refine ⟨h.frm.trans hf (fun k hk => ?_), fun k hk => ?_⟩
  · rcases hF k hk with e | e | e
    · exact .inl e
    · exact (h.new k e).imp_right fun h => h.1
    · exact .inr e
  · exact (h.new k hk).imp_right fun e => ⟨e.1, Nat.lt_of_lt_of_le e.2 hf.size⟩
theorem Mem.tb {w : World} {B : Nat} {own : Nat → Own} {L : Lay} {S : TS RS} {w1 : World} {own1 : Nat → Own} (h : Mem w B own L S) (ht : TbB w B) (hs : Stp w own w1 own1) : TbB w1 B := ht.frm hs.frm h.lo
theorem mds_pos : ∀ m, mds.right m = true → 0 < m ∧ m < 7 := fun m h => by
  have h' : mrg m = true := h
  simp only [mrg, Bool.and_eq_true, decide_eq_true_eq] at h'
  omega
/-- what is kept while wishes are granted: j of the queue q of the thing s are granted, their owners lie in the row vg -/
structure StK (w0 : World) (own0 : Nat → Own) (B : Nat) (L0 : Lay) (T0 : TbL RS) (s : RS) (q : List Lv) (t : Int) (rest rx : List RS) (m0 : RS → Int) (Z : Nat) (wr : World) (vg : Value) (j : Nat) (own : Nat → Own) (L : Lay) (S : TS RS) (T : TbL RS) (out : List Int) : Prop where
  mem : Mem wr B own L S
  lay : GrA L0 L
  stp : Stp w0 own0 wr own
  rel : RelP T (setQ S s (q.drop j)) t rest rx m0
  bas : BasL ordT mds T
  qu : S.qu s = q
  ex : S.ex s = true
  len : out.length = j
  eq : stl ordT mds (q.drop j) T out = stl ordT mds q T0 []
  siz : sizT T ≤ Z
  row : QI wr w0.heap.size vg out
  fre : ∀ k, vg.ownBlock = some k → own k = .none
  hi : HiO wr own
  tb : TbB wr B
  bw : B ≤ w0.heap.size
section
variable {w0 wr w1 : World} {own0 own : Nat → Own} {B : Nat} {L0 L : Lay} {T0 T : TbL RS} {s : RS} {q : List Lv} {t : Int} {rest rx : List RS} {m0 : RS → Int} {Z : Nat} {vg : Value} {j : Nat} {S : TS RS} {out : List Int}
theorem StK.below (h : StK w0 own0 B L0 T0 s q t rest rx m0 Z wr vg j own L S T out) (hb : Below wr.heap.size wr w1) : StK w0 own0 B L0 T0 s q t rest rx m0 Z w1 vg j own L S T out :=
  ⟨h.mem.below hb, h.lay, h.stp.grow (F := fun _ => False) (Frm.of_below hb) (fun _ h => h.elim), h.rel, h.bas, h.qu, h.ex, h.len, h.eq, h.siz, h.row.below hb, h.fre, h.hi.below hb.size, h.tb.below hb, h.bw⟩
/-- the wish at hand -/
theorem StK.head (h : StK w0 own0 B L0 T0 s q t rest rx m0 Z wr vg j own L S T out) (hs : s ∉ rest) {l : Lv} (hl : q[j]? = some l) :
    l.res = s ∧ mds.right l.mode = true ∧ q.drop j = l :: q.drop (j + 1) ∧ admB mds (S.cn s) (S.md s l.txn) l.mode = can mds T.hv l ∧ (S.md s l.txn = 0 ∨ (0 < S.md s l.txn ∧ S.md s l.txn < 7)) ∧ (S.md s l.txn ≠ 0 → 0 < S.cn s (S.md s l.txn).toNat) ∧ (∀ m, S.cn s m ≤ Z + 1) ∧ (S.hs l.txn).length ≤ Z ∧
    RelP ⟨gv ordT l T.hv, fgt T.wt l.txn⟩ (setQ (delWs (grantS S l) l.txn) s (q.drop (j + 1))) t rest rx m0 ∧ que T.wt s = l :: q.drop (j + 1) := by
  have hlt := (List.getElem?_eq_some_iff.1 hl).1
  have hd : q.drop j = l :: q.drop (j + 1) := by
    rw [List.drop_eq_getElem_cons hlt]
    congr 1
    rw [List.getElem?_eq_getElem hlt] at hl
    injection hl
  have hr := h.rel
  rw [hd] at hr
  obtain ⟨h1, h2, h3, h4⟩ := hr.pop ordT mds h.bas hs
  obtain ⟨b1, b2⟩ := hr.bounds ordT mds h.bas
  obtain ⟨p1, p2⟩ := hr.pos ordT mds h.bas mds_pos hs l.txn
  have ha := hr.adm ordT mds h.bas (fun m hm => by have := mds_pos m hm; omega) hs l.txn l.mode
  have hz := h.siz
  unfold sizT at hz
  refine ⟨h1, h2, hd, ?_, p1, p2, fun m => ?_, ?_, ?_, h3⟩
  · have e : (⟨l.txn, s, l.mode⟩ : Lv) = l := by rw [← h1]
    rw [e] at ha
    exact ha
  · have h9 : S.cn s m ≤ T.hv.length + 1 := b1 s m
    omega
  · have h9 : (S.hs l.txn).length ≤ T.hv.length := b2 l.txn
    omega
  · exact h4
/-- it is granted -/
theorem StK.next {w2 w3 w4 : World} {own3 : Nat → Own} {L3 : Lay} {v' : Value} {l : Lv} (h : StK w0 own0 B L0 T0 s q t rest rx m0 Z wr vg j own L S T out) (hs : s ∉ rest) (hl : q[j]? = some l) (hc : can mds T.hv l = true)
    (hM : Mem w3 B own3 L3 (delWs (grantS S l) l.txn)) (hL : GrA L L3) (hst : Stp wr own w3 own3) (q4 : QI w4 w0.heap.size v' (out ++ [l.txn])) (h3 : Below w3.heap.size w3 w2) (g4 : w2.grownBy w4 vg.ownBlock) (n4 : NewO w2 vg v') :
    StK w0 own0 B L0 T0 s q t rest rx m0 Z w4 v' (j + 1) own3 L3 (delWs (grantS S l) l.txn) ⟨gv ordT l T.hv, fgt T.wt l.txn⟩ (out ++ [l.txn]) := by
  obtain ⟨h1, h2, hd, -, -, -, -, -, h4, h5⟩ := h.head hs hl
  have hf4 : Frm (fun k => vg.ownBlock = some k) w2 w4 := Frm.grown (F := fun k => vg.ownBlock = some k) (Frm.refl _ w2) g4 (fun k hk => .inl hk)
  have hfr : ∀ k, vg.ownBlock = some k → own3 k = .none := fun k hk => hst.free (h.fre k hk) ((h.row.lt k hk).2)
  have hw3 : Stp w0 own0 w3 own3 := h.stp.trans hst
  refine ⟨(hM.below h3).step hf4 hfr, h.lay.trans hL, (hw3.grow (F := fun _ => False) (Frm.of_below h3) (fun _ h => h.elim)).grow hf4 (fun k hk => .inr (.inr (h.row.lt k hk).1)), h4, h.bas.grant ordT mds h5 hc, ?_, ?_, ?_, ?_, Nat.le_trans (siz_pop ordT h5) h.siz, q4, fun k hk => ?_, ((hst.hi h.hi).below h3.size).below hf4.size, ?_, h.bw⟩
  · exact h.qu
  · show (if s = l.res then true else S.ex s) = true
    rw [if_pos h1.symm]
  · rw [List.length_append, h.len]; rfl
  · rw [← h.eq, hd]
    conv => rhs; unfold stl
    rw [if_pos hc]
  · rcases n4 k hk with e | e
    · exact hfr k e
    · refine Classical.byContradiction fun c => ?_
      have := (hst.hi h.hi) k c
      have := h3.size
      omega
  · exact (((h.mem.tb h.tb hst)).below h3).frm hf4 (fun k hk => Nat.le_trans h.bw (h.row.lt k hk).1)
end

end Go.Proofs.YtelfinhpjokmdaaGreatDoor

namespace Go.Proofs.YtelfinhpjokmdaaGreatDoor
set_option maxRecDepth 100000
open Go.RowKit Go.Joins Go.ChangeShapes Go.WideShapes
open Go.MapKept
set_option linter.unusedVariables false
set_option linter.unnecessarySimpa false
set_option linter.unusedSimpArgs false

set_option maxHeartbeats 1000000 in
theorem del0_any (w : World) (B : Nat) (v : Value) (l : List Lv) (h : OwL w B v l) :
    Calls Tryz.prog 59 #[v, .int .i64 0, .int .i64 0] w fun e w' => e = .returned v ∧ Below w.heap.size w w' := by
  obtain ⟨a, c, rfl, h1, h2⟩ := h.sl
  unfold maxLen at h2
  generalize l.length = n at *
  have h3 : (0 : Int) ≤ (n : Int) := by omega
  clear h
  go_enter Tryz.func59, Tryz.ntmps59
  go_wp2_with fail
  first
    | (go_ret; exact ⟨rfl, Below.refl _ _⟩)
    | exact ⟨rfl, Below.refl _ _⟩
    | exact ⟨rfl, (Below.refl _ _).drew⟩
    | trace_state
/-- both ends of a cut at the queue's head -/
theorem delh_any (B : Nat) (w : World) (v : Value) (l : List Lv) (hown : OwL w B v l) (hsz : l.length ≤ 4294967296) (j : Nat) (hj : j ≤ l.length) :
    Calls Tryz.prog 59 #[v, .int .i64 0, .int .i64 j] w fun e w' => ∃ v', e = .returned v' ∧ OwL w' B v' (l.drop j) ∧ v'.ownBlock = v.ownBlock ∧ Frm (fun k => v.ownBlock = some k) w w' := by
  rcases Nat.eq_zero_or_pos j with rfl | hp
  · refine (del0_any w B v l hown).mono ?_
    rintro e w' ⟨rfl, hb⟩
    exact ⟨v, rfl, (Frm.of_below (F := fun _ => False) hb).owL hown (fun _ _ h => h), rfl, Frm.of_below hb⟩
  · refine (del_any B w v l hown hsz 0 j hp hj).mono ?_
    rintro e w' ⟨v', rfl, ho, he, hg⟩
    refine ⟨v', rfl, by simpa using ho, he, Frm.grown (F := fun k => v.ownBlock = some k) (Frm.refl _ w) hg (fun k hk => .inl hk)⟩
/-- a queue's head struck out, in memory -/
def GrB (L L' : Lay) (s : RS) : Prop := L'.tb = L.tb ∧ L'.tg = L.tg ∧ L'.bt = L.bt ∧ ∀ s', s' ≠ s → L'.tq s' = L.tq s'
section
variable {w : World} {B : Nat} {own : Nat → Own} {L : Lay} {S : TS RS}
set_option maxHeartbeats 8000000 in
theorem settle_any (h : Mem w B own L S) (hi : HiO w own) (ht : TbB w B) (s : RS) (hex : S.ex s = true) {T : TbL RS} {t : Int} {rest rx : List RS} {m0 : RS → Int} (hR : RelP T S t rest rx m0) (hb : BasL ordT mds T) (hs : s ∉ rest) (hZ : sizT T ≤ 4294967290) :
    Calls Tryz.prog 34 #[.pointer (some ⟨L.tb, 0, none⟩), .pointer (some ⟨L.tg s, 0, none⟩)] w fun e w' => ∃ vg own' L' S' T' out, e = .returned vg ∧ stl ordT mds (que T.wt s) T [] = (T', out) ∧ Mem w' B own' L' S' ∧ GrB L L' s ∧ Stp w own w' own' ∧ RelP T' S' t rest rx m0 ∧ BasL ordT mds T' ∧ sizT T' ≤ sizT T ∧ S'.ex s = true ∧ QI w' w.heap.size vg out ∧ (∀ k, vg.ownBlock = some k → own' k = .none) ∧ HiO w' own' := by
  generalize hP : (fun (e : Ending) (w' : World) => ∃ vg own' L' S' T' out, e = .returned vg ∧ stl ordT mds (que T.wt s) T [] = (T', out) ∧ Mem w' B own' L' S' ∧ GrB L L' s ∧ Stp w own w' own' ∧ RelP T' S' t rest rx m0 ∧ BasL ordT mds T' ∧ sizT T' ≤ sizT T ∧ S'.ex s = true ∧ QI w' w.heap.size vg out ∧ (∀ k, vg.ownBlock = some k → own' k = .none) ∧ HiO w' own') = P
  have HP := Lib.hid hP
  clear hP
  obtain ⟨q, hq⟩ : ∃ q, S.qu s = q := ⟨_, rfl⟩
  have hqT : que T.wt s = q := by rw [← hR.qu s hs, hq]
  have hql : q.length ≤ sizT T := by rw [← hqT]; have := que_le T.wt s; unfold sizT; omega
  obtain ⟨qv, hqv⟩ : ∃ v, L.tq s = v := ⟨_, rfl⟩
  have hth := h.th s hex
  rw [hq, hqv] at hth
  obtain ⟨n, hn⟩ : ∃ n, q.length = n := ⟨_, rfl⟩
  obtain ⟨qa, qc, hqe, hqc, hqm⟩ := hth.qr.sl
  rw [hn] at hqe hqc
  subst hqe
  have c8 := hth.c8
  have lg := hth.lt
  have HS : Hid (StK w own B L T s q t rest rx m0 (sizT T) w (.slice none 0 0) 0 own L S T []) :=
    ⟨h, GrA.refl L, Stp.refl _ _, hR.congr (fun _ _ => rfl) (fun _ _ => rfl) (fun s' => by
      show (if s' = s then q.drop 0 else S.qu s') = S.qu s'
      by_cases c : s' = s
      · rw [if_pos c, c, hq]; rfl
      · rw [if_neg c]) (fun _ => rfl) (fun _ => rfl) (fun _ => rfl), hb, hq, hex, rfl, rfl, Nat.le_refl _, QI.nil w _, (fun k hk => by cases hk), hi, ht, h.bB⟩
  have HQ := Lib.hid hqv
  have HQT := Lib.hid hqT
  have HN := Lib.hid hn
  have hn9 : n ≤ 4294967290 := by omega
  have HZ := Lib.hid hZ
  have HNR := Lib.hid hs
  -- the end
  have HEND := Lib.hid (fun (wr : World) (vg : Value) (j : Nat) (own1 : Nat → Own) (L1 : Lay) (S1 : TS RS) (T1 : TbL RS) (out : List Int) (hk : StK w own B L T s q t rest rx m0 (sizT T) wr vg j own1 L1 S1 T1 out) (hj : j ≤ n) (he : stl ordT mds (q.drop j) T1 out = (T1, out)) =>
    (delh_any B wr (L1.tq s) q (by have := (hk.mem.th s hk.ex).qr; rw [hk.qu] at this; exact this) (by rw [hn]; omega) j (by rw [hn]; exact hj)).mono (R' := fun e w2 => ∃ v2 : Value, e = .returned v2 ∧ (∃ a m c, v2 = .slice a m c) ∧ w2.cell? ⟨L.tg s, 8, none⟩ = some (L1.tq s) ∧ w2.frozen? ⟨L.tg s, 8, none⟩ = false ∧ P (.returned vg) (w2.setCell ⟨L.tg s, 8, none⟩ v2)) (by
      rintro e w2 ⟨v2, rfl, ho, hob, hf⟩
      have hth := hk.mem.th s hk.ex
      rw [hk.qu] at hth
      have hg1 : L1.tg s = L.tg s := by rw [hk.lay.2.1]
      have hng : ¬ (L1.tq s).ownBlock = some (L1.tg s) := fun e => (hth.own _ e).1 rfl
      have hnm : ¬ (L1.tq s).ownBlock = some (L1.tm s) := fun e => (hth.own _ e).2 rfl
      have hx : w2.heap[L1.tg s]? = some (.cells (thC (L1.tm s) (S1.cn s) (L1.tq s)) 59 (0, 0)) := (hf.heap hth.lt hng).trans hth.box
      refine ⟨v2, rfl, ho.sl', by rw [← hg1, cell_of_block hx]; rfl, by rw [← hg1]; exact unfrozen_of_block hx 8, ?_⟩
      have hf2 : Frm (fun k => k = L1.tg s) w2 (w2.setCell ⟨L1.tg s, 8, none⟩ v2) := Frm.set1 (F := fun k => k = L1.tg s) w2 rfl _ _
      have hF : Frm (fun k => (L1.tq s).ownBlock = some k ∨ k = L1.tg s) wr (w2.setCell ⟨L1.tg s, 8, none⟩ v2) := (hf.mono (F1 := fun k => (L1.tq s).ownBlock = some k ∨ k = L1.tg s) fun k hk => .inl hk).trans (hf2.mono (F1 := fun k => (L1.tq s).ownBlock = some k ∨ k = L1.tg s) fun k hk => .inr hk) (New.refl _ _)
      obtain ⟨n', hm'⟩ := hth.mp
      have hth2 : ThM (w2.setCell ⟨L1.tg s, 8, none⟩ v2) B (L1.tg s) (L1.tm s) (S1.md s) (S1.cn s) v2 (q.drop j) := by
        refine ⟨?_, ⟨n', hm'.step hF (fun e => by rcases e with e | e; exact hnm e; exact hth.ne e.symm)⟩, hf2.owL ho (fun k hk e => hng (by rw [← e, ← hob]; exact hk))⟩
        rw [setCell_eq_setRow w2 _ 8 _ _ _ _ hx, setRow_heap w2 _ _ _ _ _ hx]; rfl
      obtain ⟨g1, g2⟩ := hk.mem.upd hk.ex hF (fun k hk' => by rcases hk' with e | e; (right; right; exact hk.mem.otq s hk.ex k e); (left; rw [e]; exact hk.mem.otg s hk.ex)) hth2 (fun k hk' => .inl (by rw [← hob]; exact hk'))
      rw [← hg1, ← HP.out]
      have hvf : ∀ k, vg.ownBlock = some k → ownN own1 wr.heap.size (w2.setCell ⟨L1.tg s, 8, none⟩ v2).heap.size (.tq s) k = .none := fun k hk' => by
        rw [ownN_old (hk.row.lt k hk').2]; exact hk.fre k hk'
      refine ⟨vg, _, _, _, T1, out, rfl, ?_, g1, ⟨hk.lay.1, hk.lay.2.1, hk.lay.2.2.2.2.1, fun s' hs' => ?_⟩, hk.stp.trans g2, hk.rel.congr (fun s' u => ?_) (fun s' m => ?_) (fun s' => ?_) (fun _ => rfl) (fun _ => rfl) (fun _ => rfl), hk.bas, hk.siz, hk.ex, ?_, hvf, g2.hi hk.hi⟩
      · rw [hqT, ← hk.eq, he]
      · show (if s' = s then v2 else L1.tq s') = L.tq s'
        rw [if_neg hs']; exact hk.lay.2.2.2.2.2 s'
      · show (if s' = s then S1.md s else S1.md s') u = S1.md s' u
        by_cases c : s' = s
        · rw [if_pos c, c]
        · rw [if_neg c]
      · show (if s' = s then S1.cn s else S1.cn s') m = S1.cn s' m
        by_cases c : s' = s
        · rw [if_pos c, c]
        · rw [if_neg c]
      · rfl
      · exact hk.row.step hF (fun k hk' e => by
          have h0 := hk.fre k hk'
          rcases e with e | e
          · rw [hk.mem.otq s hk.ex k e] at h0; cases h0
          · rw [e, hk.mem.otg s hk.ex] at h0; cases h0)))
  have HLN := Lib.hid (show n = q.length from hn.symm)
  clear h hi ht hex hR hb hs hZ hq hqT hql hqv hth hn hqc hqm
  go_enter Tryz.func34, Tryz.ntmps34
  go_wp2_with fail
  go_loopw [5, 13] (fun vg i wr => ∃ (j : Nat) (own1 : Nat → Own) (L1 : Lay) (S1 : TS RS) (T1 : TbL RS) (out : List Int), j ≤ n ∧ i = .int .i64 j ∧ Hid (StK w own B L T s q t rest rx m0 (sizT T) wr vg j own1 L1 S1 T1 out)) (fun _ i _ => n - (intOf i).toNat)
  case atStart => exact ⟨0, _, _, _, _, _, Nat.zero_le _, rfl, HS⟩
  case round =>
    obtain ⟨j, own1, L1, S1, T1, out, hj, rfl, HK⟩ := hrel
    by_cases c : j < n
    · have c1 : (j : Int) < (n : Int) := by omega
      obtain ⟨l, hl⟩ : ∃ l, q[j]? = some l := ⟨_, List.getElem?_eq_getElem (by rw [HN.out]; exact c)⟩
      obtain ⟨r1, r2, r3, r4, r5, r6, r7, r8, -, -⟩ := HK.out.head HNR.out hl
      have hrow := (HK.out.mem.th s HK.out.ex).qr
      rw [HK.out.qu, HK.out.lay.2.2.2.2.2 s, HQ.out] at hrow
      obtain ⟨g', cap', e1, -, -, a0, a1, a2, -⟩ := OwL.at hrow hl
      injection e1 with e1 e2 e3
      subst e1
      obtain ⟨W1, hW1⟩ : ∃ W1, wr.alloc (.cells #[.int .i64 l.txn, .string ⟨l.res.toArray⟩, .int .i64 l.mode] 42) = W1 := ⟨_, rfl⟩
      have hb1 : Below wr.heap.size wr W1 := by rw [← hW1]; exact (Below.refl _ _).alloc (Nat.le_refl _) _
      have hx1 : W1.heap[wr.heap.size]? = some (.cells #[.int .i64 l.txn, .string ⟨l.res.toArray⟩, .int .i64 l.mode] 42 (0, 0)) := by rw [← hW1]; exact heap_alloc_new wr _
      have b0 : W1.cell? ⟨wr.heap.size, 0, none⟩ = some (.int .i64 l.txn) := by rw [cell_of_block hx1]; rfl
      have b1 : W1.cell? ⟨wr.heap.size, 1, none⟩ = some (.string ⟨l.res.toArray⟩) := by rw [cell_of_block hx1]; rfl
      have b2 : W1.cell? ⟨wr.heap.size, 2, none⟩ = some (.int .i64 l.mode) := by rw [cell_of_block hx1]; rfl
      have HB1 := Lib.hid hb1
      have HX1 := Lib.hid hx1
      have HL := Lib.hid hl
      have HK1 := Lib.hid (HK.out.below hb1)
      have hZ := HZ.out
      have hadm := admits_any (HK1.out.mem.th s HK1.out.ex) HK1.out.tb.t l.txn l.mode r5 r6 (fun m => by have := r7 m; omega)
      rw [r4, HK.out.lay.2.1] at hadm
      have HADM := Lib.hid hadm
      have HR := Lib.hid (And.intro r1 (And.intro r2 (And.intro r5 (And.intro r6 (And.intro r7 r8)))))
      have HR3 := Lib.hid r3
      have hjw : IntKind.i64.wrap ((j : Int) + 1) = ((j + 1 : Nat) : Int) := by rw [IntWalk.i64_in _ (by omega)]; omega
      obtain ⟨bb, hbb⟩ : ∃ b, can mds T1.hv l = b := ⟨_, rfl⟩
      rw [hbb] at HADM
      have HBB := Lib.hid hbb
      clear hl hrow e2 e3 hb1 hx1 r1 r2 r3 r4 r5 r6 r7 r8 hadm hbb hZ
      cases bb with
      | false =>
        have HSTL : Hid (stl ordT mds (q.drop j) T1 out = (T1, out)) := by
          rw [HR3.out]
          unfold stl
          rw [if_neg (by rw [HBB.out]; simp)]
          exact rfl
        go_wp2_with fail
        try rw [hW1]
        refine HADM.out.mono ?_
        rintro e w2 ⟨rfl, hb2⟩
        have HKX := Lib.hid (HK1.out.below hb2)
        clear hb2 hW1
        have HE := Lib.hid (HEND.out w2 _ j own1 L1 S1 T1 out HKX.out hj HSTL.out)
        have hcx : w2.cell? ⟨L.tg s, 8, none⟩ = some (.slice (some ⟨g', 0, none⟩) n qc) := by
          have h8 := (HKX.out.mem.th s HKX.out.ex).c8
          rw [HKX.out.lay.2.1, HKX.out.lay.2.2.2.2.2 s, HQ.out] at h8
          exact h8
        obtain ⟨ga, gb, go, gc, hve, -, -, -, -⟩ := HKX.out.row.isN
        rw [HKX.out.len] at hve
        subst hve
        have HTQ := Lib.hid (show L1.tq s = .slice (some ⟨g', 0, none⟩) n qc by rw [HKX.out.lay.2.2.2.2.2 s, HQ.out])
        rw [HTQ.out] at HE
        go_wp2_with fail
        refine HE.out.mono ?_
        rintro e w4 ⟨v2, rfl, ⟨xa, xm, xc, rfl⟩, d8, f8, hp⟩
        have HF := Lib.hid hp
        clear hp
        go_wp2_with fail
        exact HF.out
      | true =>
        have hZ := HZ.out
        have hGR : ∀ (wx : World) (hb : Below W1.heap.size W1 wx), Calls Tryz.prog 21 #[.pointer (some ⟨L.tb, 0, none⟩), .pointer (some ⟨L.tg s, 0, none⟩), encL l] wx fun e w' => e = .returned (.tuple #[]) ∧ ∃ own' L', GrA L1 L' ∧ Mem w' B own' L' (grantS S1 l) ∧ Stp wx own1 w' own' := by
          intro wx hb
          obtain ⟨r1, r2, r5, r6, r7, r8⟩ := HR.out
          have h := grant_any (HK1.out.below hb).mem l (by rw [r1]; exact HK1.out.ex) (by rw [r1]; exact r5) (by rw [r1]; exact r6) (fun m => by rw [r1]; have := r7 m; omega) (mds_pos _ r2).1 (mds_pos _ r2).2 (by omega)
          rw [HK.out.lay.2.1, HK.out.lay.1] at h
          rw [show L.tg l.res = L.tg s by rw [r1]] at h
          exact h
        have HGR := Lib.hid hGR
        clear hGR
        unfold encL at HGR
        go_wp2_with fail
        try rw [hW1]
        refine HADM.out.mono ?_
        rintro e w2 ⟨rfl, hb2⟩
        have HB2 := Lib.hid hb2
        have x0 := cell_lt b0 hb2
        have x1 := cell_lt b1 hb2
        have x2 := cell_lt b2 hb2
        have HG2 := Lib.hid (HGR.out w2 hb2)
        clear hb2 hW1 HGR
        go_wp2_with fail
        refine HG2.out.mono ?_
        rintro e w3 ⟨rfl, own3, L3, hL3, hM3, hS3⟩
        have hbx := (Array.getElem?_eq_some_iff.1 HX1.out).1
        have ho1 : own1 wr.heap.size = .none := Classical.byContradiction fun c => by have := HK.out.hi _ c; omega
        have y0 : w3.cell? ⟨wr.heap.size, 0, none⟩ = some (.int .i64 l.txn) := (hS3.frm.cell (Nat.lt_of_lt_of_le hbx HB2.out.size) (fun c => c ho1) 0).trans x0
        have ho3 : own3 wr.heap.size = .none := hS3.free ho1 (Nat.lt_of_lt_of_le hbx HB2.out.size)
        have t2 : w3.cell? ⟨L.tb, 2, none⟩ = some (.map (some L3.bw)) := by
          have := hM3.cells.2.2
          rw [hL3.1, HK.out.lay.1] at this
          exact this
        have hM3d : Mem w3.drew B own3 L3 (grantS S1 l) := hM3.below (Below.refl _ _).drew
        obtain ⟨w4, hdel, hM4, hf4⟩ := hM3d.delW l.txn 0
        have z0 : w4.cell? ⟨wr.heap.size, 0, none⟩ = some (.int .i64 l.txn) := (hf4.cell (World.block_lt_of_cell? _ _ y0) (fun c => by have c' : wr.heap.size = L3.bw := c; rw [c', hM3.obw] at ho3; cases ho3) 0).trans y0
        have HM4 := Lib.hid hM4
        have HL3 := Lib.hid hL3
        have HS4 := Lib.hid (((Stp.of_below (own := own1) (HB1.out.trans (HB2.out.mono HB1.out.size))).trans hS3).trans ((Stp.of_below (own := own3) (Below.refl _ w3).drew).trans (Stp.of_frm hf4 (fun k hk e => by rw [hk, hM3.obw] at e; cases e))))
        have HRW4 := Lib.hid ((HK.out.row.step HS4.out.frm (fun k hk c => c (HK.out.fre k hk))))
        clear hM3 hM3d hL3 hS3 hM4 hf4 ho1 ho3 x0 x1 x2 hbx a0 a1 a2 b0 b1 b2
        have hb5 : Below w4.heap.size w4 (w4.alloc (.cells #[.int .i64 l.txn] 3)) := (Below.refl _ _).alloc (Nat.le_refl _) _
        have HB5 := Lib.hid hb5
        have HRW5 := Lib.hid (HRW4.out.below hb5)
        have HSZ := Lib.hid (show w.heap.size ≤ (w4.alloc (.cells #[.int .i64 l.txn] 3)).heap.size from Nat.le_trans (Nat.le_trans HK.out.stp.frm.size HS4.out.frm.size) hb5.size)
        have HY := Lib.hid (show (w4.alloc (.cells #[.int .i64 l.txn] 3)).cell? ⟨w4.heap.size, 0, none⟩ = some (.int .i64 l.txn) by rw [cell_of_block (heap_alloc_new w4 _)]; rfl)
        have HLO := Lib.hid (show out.length + 1 ≤ 8796093022208 by rw [HK.out.len]; omega)
        clear hb5
        go_upto_region 7 with fail
        go_region_with fail
        all_goals
          go_wp2_with (first | (at_builtin; refine wp_pushQ rfl _ _ rfl w.heap.size u5 out rfl HRW5.out HSZ.out ⟨w4.heap.size, 0, none⟩ 1 l.txn rfl HY.out HLO.out ?_; intro v' w6 q6 g6 n6; have HK6 := Lib.hid (StK.next HK.out HNR.out HL.out HBB.out HM4.out HL3.out HS4.out q6 HB5.out g6 n6); clear q6 g6 n6))
          go_roundw
          case rel => exact ⟨j + 1, own3, L3, _, _, _, by omega, by first | rfl | go_num, HK6⟩
          case measure => simp [intOf]; omega
    · obtain rfl : j = n := by omega
      have cf : decide ((j : Int) < (j : Int)) = false := by simp
      have HSTL : Hid (stl ordT mds (q.drop j) T1 out = (T1, out)) := by
        rw [List.drop_eq_nil_of_le (by rw [HN.out]; exact Nat.le_refl _)]
        exact rfl
      have HKX := HK
      have HE := Lib.hid (HEND.out wr _ j own1 L1 S1 T1 out HKX.out hj HSTL.out)
      have hcx : wr.cell? ⟨L.tg s, 8, none⟩ = some (.slice qa j qc) := by
        have h8 := (HKX.out.mem.th s HKX.out.ex).c8
        rw [HKX.out.lay.2.1, HKX.out.lay.2.2.2.2.2 s, HQ.out] at h8
        exact h8
      obtain ⟨ga, gb, go, gc, hve, -, -, -, -⟩ := HKX.out.row.isN
      rw [HKX.out.len] at hve
      subst hve
      have HTQ := Lib.hid (show L1.tq s = .slice qa j qc by rw [HKX.out.lay.2.2.2.2.2 s, HQ.out])
      rw [HTQ.out] at HE
      go_wp2_with fail
      refine HE.out.mono ?_
      rintro e w2 ⟨v2, rfl, ⟨xa, xm, xc, rfl⟩, d8, f8, hp⟩
      have HF := Lib.hid hp
      clear hp
      go_wp2_with fail
      exact HF.out
end

end Go.Proofs.YtelfinhpjokmdaaGreatDoor

namespace Go.Proofs.YtelfinhpjokmdaaGreatDoor
set_option maxRecDepth 100000
open Go.RowKit Go.Joins Go.ChangeShapes Go.WideShapes
open Go.MapKept
set_option linter.unusedVariables false
set_option linter.unnecessarySimpa false
set_option linter.unusedSimpArgs false

section
variable {w w1 w2 : World} {B : Nat} {own : Nat → Own} {L : Lay} {S : TS RS}
/-- a state with a thing that is there, or not -/
def exS (S : TS RS) (s : RS) (b : Bool) : TS RS where
  md := S.md
  cn := S.cn
  qu := S.qu
  ex s' := if s' = s then b else S.ex s'
  hs := S.hs
  ws := S.ws
theorem Mem.newT (h : Mem w B own L S) {s : RS} (hs : S.ex s = false) {g mb : Nat} (h1 : Below w.heap.size w w1) (ht : ThM w1 B g mb (fun _ => 0) (fun _ => 0) (.slice none 0 0) []) (hg : w.heap.size ≤ g) (hm : w.heap.size ≤ mb) :
    ∃ w2 own2 L2, (Instr.mapUpdate 48 (.map (some L.bt)) (.string ⟨s.toArray⟩) (.pointer (some ⟨g, 0, none⟩))).run Tryz.prog w1 = .ok () w2 ∧ Mem w2 B own2 L2 (exS S s true) ∧ Stp w own w2 own2 ∧ L2.tb = L.tb ∧ L2.tg s = g ∧ Frm (fun k => k = L.bt) w1 w2 := by
  have hM1 := h.below h1
  obtain ⟨n1, m1⟩ := hM1.mt
  obtain ⟨n2, m2⟩ := hM1.mh
  obtain ⟨n3, m3⟩ := hM1.mw
  obtain ⟨z1, z2, z3⟩ := h.no s hs
  obtain ⟨w2, hr, m, gr, hz⟩ := m1.put (P := Tryz.prog) (t := 48) Tryz.underlying48 Tryz.underlying9 ek_key ek_inj s (.pointer (some ⟨g, 0, none⟩))
  have hf : Frm (fun k => k = L.bt) w1 w2 := Frm.grown (Frm.refl _ w1) gr (fun k hk => by injection hk with hk; exact .inl hk.symm)
  have hn : ∀ k o, own k = o → o ≠ .bt → ¬ k = L.bt := fun k o e ho hk => ho (by rw [← e, hk]; exact h.obt)
  have hs1 := h1.size
  have hbt := h.btl
  have hgm := ht.ne
  have e : (fun k' => if k' = s then some (Value.pointer (some ⟨g, 0, none⟩)) else thV S L k') = thV (exS S s true) { L with tg := fun s' => if s' = s then g else L.tg s', tm := fun s' => if s' = s then mb else L.tm s', tq := fun s' => if s' = s then .slice none 0 0 else L.tq s' } := funext fun u => by
    unfold thV exS
    by_cases c : u = s
    · simp [c]
    · simp [c]
  rw [e] at m
  -- whose the new blocks are
  obtain ⟨own2, ho2⟩ : ∃ o : Nat → Own, ∀ k, o k = if k = g then .tg s else if k = mb then .tm s else own k := ⟨_, fun _ => rfl⟩
  have hold : ∀ k o, own k = o → k < w.heap.size → own2 k = o := fun k o e hk => by rw [ho2, if_neg (by omega), if_neg (by omega)]; exact e
  have hgl := ht.lt
  have hml : mb < w1.heap.size := by obtain ⟨n, hmm⟩ := ht.mp; exact hmm.lt
  refine ⟨w2, own2, { L with tg := fun s' => if s' = s then g else L.tg s', tm := fun s' => if s' = s then mb else L.tm s', tq := fun s' => if s' = s then .slice none 0 0 else L.tq s' }, hr, ⟨(hf.heap hM1.tbl (hn _ _ h.otb (by intro e; cases e))).trans hM1.box, ⟨_, m⟩, ⟨n2, m2.step hf (hn _ _ h.obh (by intro e; cases e))⟩, ⟨n3, m3.step hf (hn _ _ h.obw (by intro e; cases e))⟩, fun s' hs' => ?_, fun s' hs' => ?_, fun u => ?_, hold _ _ h.otb h.tbl, hold _ _ h.obt h.btl, hold _ _ h.obh h.bhl, hold _ _ h.obw h.bwl, fun s' hs' => ?_, fun s' hs' => ?_, fun s' hs' k hk => ?_, fun u k hk => hold _ _ (h.ohr u k hk) (h.hrl u k hk), fun k hk => ?_⟩, ⟨⟨?_, ?_, ?_, ?_, ?_⟩, fun k hk => ?_⟩, rfl, by simp, hf⟩
  · show ThM w2 B (if s' = s then g else L.tg s') (if s' = s then mb else L.tm s') (S.md s') (S.cn s') (if s' = s then .slice none 0 0 else L.tq s') (S.qu s')
    by_cases c : s' = s
    · subst c
      rw [if_pos rfl, if_pos rfl, if_pos rfl, z1, z2, z3]
      exact ht.step hf (fun e => by omega) (fun e => by omega) (fun k hk => by cases hk)
    · rw [if_neg c, if_neg c, if_neg c]
      have hs2 : S.ex s' = true := by
        have : (if s' = s then true else S.ex s') = true := hs'
        rw [if_neg c] at this; exact this
      exact (hM1.th s' hs2).step hf (hn _ _ (h.otg s' hs2) (by intro e; cases e)) (hn _ _ (h.otm s' hs2) (by intro e; cases e)) (fun k hk => hn _ _ (h.otq s' hs2 k hk) (by intro e; cases e))
  · have c : s' ≠ s := by
      rintro rfl
      have : (if s' = s' then true else S.ex s') = false := hs'
      rw [if_pos rfl] at this; cases this
    have : (if s' = s then true else S.ex s') = false := hs'
    rw [if_neg c] at this
    exact h.no s' this
  · exact (hM1.rw u).step hf (fun k hk => hn _ _ (h.ohr u k hk) (by intro e; cases e))
  · show own2 (if s' = s then g else L.tg s') = .tg s'
    by_cases c : s' = s
    · rw [if_pos c, ho2, if_pos rfl, c]
    · rw [if_neg c]
      have hs2 : S.ex s' = true := by
        have : (if s' = s then true else S.ex s') = true := hs'
        rw [if_neg c] at this; exact this
      exact hold _ _ (h.otg s' hs2) (h.tgl hs2)
  · show own2 (if s' = s then mb else L.tm s') = .tm s'
    by_cases c : s' = s
    · rw [if_pos c, ho2, if_neg (fun e => hgm e.symm), if_pos rfl, c]
    · rw [if_neg c]
      have hs2 : S.ex s' = true := by
        have : (if s' = s then true else S.ex s') = true := hs'
        rw [if_neg c] at this; exact this
      exact hold _ _ (h.otm s' hs2) (h.tml hs2)
  · have hk' : (if s' = s then .slice none 0 0 else L.tq s').ownBlock = some k := hk
    by_cases c : s' = s
    · rw [if_pos c] at hk'; cases hk'
    · rw [if_neg c] at hk'
      have hs2 : S.ex s' = true := by
        have : (if s' = s then true else S.ex s') = true := hs'
        rw [if_neg c] at this; exact this
      exact hold _ _ (h.otq s' hs2 k hk') (h.tql hs2 k hk')
  · rw [ho2] at hk
    have := h.bB
    by_cases c : k = g
    · omega
    · by_cases c2 : k = mb
      · omega
      · rw [if_neg c, if_neg c2] at hk; exact h.lo k hk
  · exact hf.os.trans h1.os
  · exact hf.tape.trans h1.tape
  · exact hf.output.trans h1.output
  · exact Nat.le_trans h1.size hf.size
  · intro k hk hc
    rw [hf.block k (by omega) (fun e => hc (by rw [e, h.obt]; intro e; cases e))]
    exact h1.block k hk
  · rw [ho2] at hk
    have hf2 := hf.size
    by_cases c : k = g
    · exact .inr (by omega)
    · by_cases c2 : k = mb
      · exact .inr (by omega)
      · rw [if_neg c, if_neg c2] at hk; exact .inl hk
theorem Mem.delT (h : Mem w B own L S) {s : RS} (hs : S.ex s = true) (z1 : S.md s = fun _ => 0) (z2 : S.cn s = fun _ => 0) (z3 : S.qu s = []) (ty : TypeId) :
    ∃ w2, (Builtin.delete_ #[48, 9] ty #[.map (some L.bt), .string ⟨s.toArray⟩]).run Tryz.prog w = .ok (.tuple #[]) w2 ∧ Mem w2 B own L (exS S s false) ∧ Frm (fun k => k = L.bt) w w2 := by
  obtain ⟨n1, m1⟩ := h.mt
  obtain ⟨n2, m2⟩ := h.mh
  obtain ⟨n3, m3⟩ := h.mw
  obtain ⟨w2, hr, m, gr, hz⟩ := m1.del (P := Tryz.prog) (t := 48) (ty := ty) Tryz.underlying48 Tryz.underlying9 ek_key ek_inj s
  have hf : Frm (fun k => k = L.bt) w w2 := Frm.grown (Frm.refl _ w) gr (fun k hk => by injection hk with hk; exact .inl hk.symm)
  have hn : ∀ k o, own k = o → o ≠ .bt → ¬ k = L.bt := fun k o e ho hk => ho (by rw [← e, hk]; exact h.obt)
  have e : (fun k' => if k' = s then none else thV S L k') = thV (exS S s false) L := funext fun u => by
    unfold thV exS
    by_cases c : u = s
    · simp [c]
    · simp [c]
  rw [e] at m
  have hex : ∀ s', (exS S s false).ex s' = true → S.ex s' = true := fun s' hs' => by
    have : (if s' = s then false else S.ex s') = true := hs'
    by_cases c : s' = s
    · rw [if_pos c] at this; cases this
    · rw [if_neg c] at this; exact this
  refine ⟨w2, hr, ⟨(hf.heap h.tbl (hn _ _ h.otb (by intro e; cases e))).trans h.box, ⟨_, m⟩, ⟨n2, m2.step hf (hn _ _ h.obh (by intro e; cases e))⟩, ⟨n3, m3.step hf (hn _ _ h.obw (by intro e; cases e))⟩, fun s' hs' => ?_, fun s' hs' => ?_, fun u => ?_, h.otb, h.obt, h.obh, h.obw, fun s' hs' => h.otg s' (hex s' hs'), fun s' hs' => h.otm s' (hex s' hs'), fun s' hs' => h.otq s' (hex s' hs'), h.ohr, h.lo⟩, hf⟩
  · have hs2 := hex s' hs'
    exact (h.th s' hs2).step hf (hn _ _ (h.otg s' hs2) (by intro e; cases e)) (hn _ _ (h.otm s' hs2) (by intro e; cases e)) (fun k hk => hn _ _ (h.otq s' hs2 k hk) (by intro e; cases e))
  · by_cases c : s' = s
    · rw [c]; exact ⟨z1, z2, z3⟩
    · have : (if s' = s then false else S.ex s') = false := hs'
      rw [if_neg c] at this
      exact h.no s' this
  · exact (h.rw u).step hf (fun k hk => hn _ _ (h.ohr u k hk) (by intro e; cases e))
end
set_option maxHeartbeats 1000000 in
theorem new_any (w : World) : Calls Tryz.prog 5 #[] w fun e w' => ∃ own L, e = .returned (.pointer (some ⟨L.tb, 0, none⟩)) ∧ Mem w' w.heap.size own L startS ∧ Below w.heap.size w w' ∧ HiO w' own := by
  generalize hP : (fun (e : Ending) (w' : World) => ∃ own L, e = .returned (.pointer (some ⟨L.tb, 0, none⟩)) ∧ Mem w' w.heap.size own L startS ∧ Below w.heap.size w w' ∧ HiO w' own) = P
  have HP := Lib.hid hP
  clear hP
  obtain ⟨n, hn⟩ : ∃ n, w.heap.size = n := ⟨_, rfl⟩
  obtain ⟨W1, hW1⟩ : ∃ W1, w.alloc (.map #[] 0) = W1 := ⟨_, rfl⟩
  obtain ⟨W2, hW2⟩ : ∃ W2, W1.alloc (.map #[] 0) = W2 := ⟨_, rfl⟩
  obtain ⟨W3, hW3⟩ : ∃ W3, W2.alloc (.map #[] 0) = W3 := ⟨_, rfl⟩
  have z1 : W1.heap.size = n + 1 := by rw [← hW1, ← hn]; simp
  have z2 : W2.heap.size = n + 2 := by rw [← hW2]; simp [z1]
  have z3 : W3.heap.size = n + 3 := by rw [← hW3]; simp [z2]
  have b1 : Below w.heap.size w W1 := by rw [← hW1]; exact (Below.refl _ _).alloc (Nat.le_refl _) _
  have b2 : Below W1.heap.size W1 W2 := by rw [← hW2]; exact (Below.refl _ _).alloc (Nat.le_refl _) _
  have b3 : Below W2.heap.size W2 W3 := by rw [← hW3]; exact (Below.refl _ _).alloc (Nat.le_refl _) _
  have k1 : (Instr.makeMap 48 none).run Tryz.prog w = .ok (.map (some n)) W1 := by rw [← hW1, ← hn]; rfl
  have k2 : (Instr.makeMap 49 none).run Tryz.prog W1 = .ok (.map (some (n + 1))) W2 := by rw [← hW2, ← z1]; rfl
  have k3 : (Instr.makeMap 50 none).run Tryz.prog W2 = .ok (.map (some (n + 2))) W3 := by rw [← hW3, ← z2]; rfl
  have m1 : IMap .string Go.Proofs.encStr W1 n (fun _ => none) 0 := by rw [← hW1]; exact imap_made _ _ w n hn
  have m2 : IMap (.int .i64) ik W2 (n + 1) (fun _ => none) 0 := by rw [← hW2]; exact imap_made _ _ W1 _ z1
  have m3 : IMap (.int .i64) ik W3 (n + 2) (fun _ => none) 0 := by rw [← hW3]; exact imap_made _ _ W2 _ z2
  have HF := Lib.hid (show P (.returned (.pointer (some ⟨n + 3, 0, none⟩))) (W3.alloc (.cells #[.map (some n), .map (some (n + 1)), .map (some (n + 2))] 52)) by
    rw [← HP.out]
    have b4 : Below W3.heap.size W3 (W3.alloc (.cells #[.map (some n), .map (some (n + 1)), .map (some (n + 2))] 52)) := (Below.refl _ _).alloc (Nat.le_refl _) _
    have z4 : (W3.alloc (.cells #[.map (some n), .map (some (n + 1)), .map (some (n + 2))] 52)).heap.size = n + 4 := by simp [z3]
    refine ⟨fun k => if k = n then .bt else if k = n + 1 then .bh else if k = n + 2 then .bw else if k = n + 3 then .tb else .none, ⟨n + 3, n, n + 1, n + 2, fun _ => 0, fun _ => 0, fun _ => .slice none 0 0, fun _ => none⟩, rfl, ⟨?_, ⟨0, ?_⟩, ⟨0, ?_⟩, ⟨0, ?_⟩, (fun s hs => by cases hs), (fun s _ => ⟨rfl, rfl, rfl⟩), fun t => QR.nil _ _ _, by simp, by simp, by simp, by simp, (fun s hs => by cases hs), (fun s hs => by cases hs), (fun s hs => by cases hs), (fun t k hk => by cases hk), fun k hk => ?_⟩, ?_, fun k hk => ?_⟩
    · have := heap_alloc_new W3 (.cells #[.map (some n), .map (some (n + 1)), .map (some (n + 2))] 52)
      rw [z3] at this
      exact this
    · exact ((m1.below b2).below b3).below b4
    · exact (m2.below b3).below b4
    · exact m3.below b4
    · rw [hn]
      by_cases c1 : k = n
      · omega
      · by_cases c2 : k = n + 1
        · omega
        · by_cases c3 : k = n + 2
          · omega
          · by_cases c4 : k = n + 3
            · omega
            · exact absurd (by simp [c1, c2, c3, c4]) hk
    · exact ((b1.trans (b2.mono (by omega))).trans (b3.mono (by omega))).trans (b4.mono (by omega))
    · rw [z4]
      by_cases c1 : k = n
      · omega
      · by_cases c2 : k = n + 1
        · omega
        · by_cases c3 : k = n + 2
          · omega
          · by_cases c4 : k = n + 3
            · omega
            · exact absurd (by simp [c1, c2, c3, c4]) hk)
  clear hW1 hW2 hW3 b1 b2 b3 m1 m2 m3 HP z1 z2
  go_enter Tryz.func5, Tryz.ntmps5
  go_wp2_with fail
  exact HF.out

end Go.Proofs.YtelfinhpjokmdaaGreatDoor

namespace Go.Proofs.YtelfinhpjokmdaaGreatDoor
set_option maxRecDepth 100000
open Go.RowKit Go.Joins Go.ChangeShapes Go.WideShapes
open Go.MapKept
set_option linter.unusedVariables false
set_option linter.unnecessarySimpa false
set_option linter.unusedSimpArgs false

section
variable {w w1 : World} {B g mb : Nat} {md : Int → Int} {cn : Nat → Nat} {qv : Value} {q : List Lv}
theorem waitcl_any (h : ThM w B g mb md cn qv q) (x : Lv) (b : Nat) (hc : w.cell? ⟨b, 0, none⟩ = some (.pointer (some ⟨g, 0, none⟩))) :
    Calls Tryz.prog 51 #[encL x, .pointer (some ⟨b, 0, none⟩)] w fun e w' => e = .returned (.bool (decide (md x.txn = 0))) ∧ Below w.heap.size w w' := by
  unfold encL
  obtain ⟨W1, hW1⟩ : ∃ W1, w.alloc (.cells #[.int .i64 x.txn, .string ⟨x.res.toArray⟩, .int .i64 x.mode] 42) = W1 := ⟨_, rfl⟩
  have hb1 : Below w.heap.size w W1 := by rw [← hW1]; exact (Below.refl _ _).alloc (Nat.le_refl _) _
  have hx1 : W1.heap[w.heap.size]? = some (.cells #[.int .i64 x.txn, .string ⟨x.res.toArray⟩, .int .i64 x.mode] 42 (0, 0)) := by rw [← hW1]; exact heap_alloc_new w _
  have c0 : W1.cell? ⟨w.heap.size, 0, none⟩ = some (.int .i64 x.txn) := by rw [cell_of_block hx1]; rfl
  have c1 : W1.cell? ⟨b, 0, none⟩ = some (.pointer (some ⟨g, 0, none⟩)) := (hb1.cell (p := ⟨b, 0, none⟩) (World.block_lt_of_cell? _ _ hc)).trans hc
  have HB := Lib.hid hb1
  have HH := Lib.hid (has_any (h.below hb1) x.txn)
  generalize decide (md x.txn = 0) = r at HH ⊢
  clear hx1 hb1 hc h
  go_enter Tryz.func51, Tryz.ntmps51
  go_upto_region 1 with fail
  try rw [hW1]
  clear hW1
  go_wp2_with fail
  refine HH.out.mono ?_
  rintro e w2 ⟨rfl, rfl⟩
  go_wp2_with fail
  go_ret
  exact ⟨by cases r <;> rfl, HB.out⟩
theorem waitQ_at {md : Int → Int} {q : List Lv} {l : Lv} (hz : md l.txn ≠ 0) : waitQ md q l = q.take (q.takeWhile fun x => !decide (md x.txn = 0)).length ++ l :: q.drop (q.takeWhile fun x => !decide (md x.txn = 0)).length := by
  unfold waitQ
  rw [if_neg hz]
  have e := List.takeWhile_append_dropWhile (p := fun x : Lv => !decide (md x.txn = 0)) (l := q)
  generalize hA : (q.takeWhile fun x => !decide (md x.txn = 0)) = A at e ⊢
  generalize hD : (q.dropWhile fun x => !decide (md x.txn = 0)) = D at e ⊢
  rw [← e, List.take_left' rfl, List.drop_left' rfl]
theorem waitQ_end {md : Int → Int} {q : List Lv} {l : Lv} (hz : md l.txn = 0) : waitQ md q l = q.take q.length ++ l :: q.drop q.length := by
  unfold waitQ
  rw [if_pos hz, List.take_of_length_le (Nat.le_refl _), List.drop_eq_nil_of_le (Nat.le_refl _)]
set_option maxHeartbeats 4000000 in
theorem wait_any (h : ThM w B g mb md cn qv q) (hB : B ≤ w.heap.size) (hm : q.length ≤ 4294967295) (l : Lv) :
    Calls Tryz.prog 22 #[.pointer (some ⟨g, 0, none⟩), encL l] w fun e w' => ∃ qv', e = .returned (.tuple #[]) ∧ ThM w' B g mb md cn qv' (waitQ md q l) ∧ NewB w qv qv' ∧ Frm (fun k => k = g ∨ qv.ownBlock = some k) w w' := by
  generalize hP : (fun (e : Ending) (w' : World) => ∃ qv', e = .returned (.tuple #[]) ∧ ThM w' B g mb md cn qv' (waitQ md q l) ∧ NewB w qv qv' ∧ Frm (fun k => k = g ∨ qv.ownBlock = some k) w w') = P
  have HP := Lib.hid hP
  clear hP
  unfold encL
  obtain ⟨b1, hb1⟩ : ∃ n, w.heap.size = n := ⟨_, rfl⟩
  obtain ⟨W1, hW1⟩ : ∃ W1, w.alloc (.cells #[.pointer (some ⟨g, 0, none⟩)] 54) = W1 := ⟨_, rfl⟩
  have hbe1 : Below w.heap.size w W1 := by rw [← hW1]; exact (Below.refl _ _).alloc (Nat.le_refl _) _
  have hx1 : W1.heap[b1]? = some (.cells #[.pointer (some ⟨g, 0, none⟩)] 54 (0, 0)) := by rw [← hW1, ← hb1]; exact heap_alloc_new w _
  have hz1 : W1.heap.size = b1 + 1 := by rw [← hW1, ← hb1]; simp
  obtain ⟨W2, hW2⟩ : ∃ W2, W1.alloc (.cells #[.int .i64 l.txn, .string ⟨l.res.toArray⟩, .int .i64 l.mode] 42) = W2 := ⟨_, rfl⟩
  have hbe2 : Below W1.heap.size W1 W2 := by rw [← hW2]; exact (Below.refl _ _).alloc (Nat.le_refl _) _
  have hx2 : W2.heap[b1 + 1]? = some (.cells #[.int .i64 l.txn, .string ⟨l.res.toArray⟩, .int .i64 l.mode] 42 (0, 0)) := by rw [← hW2, ← hz1]; exact heap_alloc_new W1 _
  have hbe := hbe1.trans (hbe2.mono hbe1.size)
  have hx1' := (hbe2.block b1 (by omega)).trans hx1
  have h2 := h.below hbe
  have HH := Lib.hid h2
  have HB2 := Lib.hid hbe
  have HX1 := Lib.hid hx1'
  have HX2 := Lib.hid hx2
  have c8 := h2.c8
  have d0 : W2.cell? ⟨b1, 0, none⟩ = some (.pointer (some ⟨g, 0, none⟩)) := by rw [cell_of_block hx1']; rfl
  have e0 : W2.cell? ⟨b1 + 1, 0, none⟩ = some (.int .i64 l.txn) := by rw [cell_of_block hx2]; rfl
  have e1 : W2.cell? ⟨b1 + 1, 1, none⟩ = some (.string ⟨l.res.toArray⟩) := by rw [cell_of_block hx2]; rfl
  have e2 : W2.cell? ⟨b1 + 1, 2, none⟩ = some (.int .i64 l.mode) := by rw [cell_of_block hx2]; rfl
  have LTS := Lib.hid (show g < W2.heap.size ∧ b1 < W2.heap.size ∧ b1 + 1 < W2.heap.size from ⟨h2.lt, (Array.getElem?_eq_some_iff.1 hx1').1, (Array.getElem?_eq_some_iff.1 hx2).1⟩)
  have HHAS := Lib.hid (has_any h2 l.txn)
  obtain ⟨va, vc, hqv, -, -⟩ := h2.qr.sl
  obtain ⟨n, hn⟩ : ∃ n, q.length = n := ⟨_, rfl⟩
  have HQV := Lib.hid hqv
  have HN := Lib.hid hn
  rw [hqv] at c8
  rw [hn] at hm c8 HQV
  have HIX := Lib.hid (idxf_any W2 B qv q h2.qr (by rw [hn]; omega) 51 (.pointer (some ⟨b1, 0, none⟩)) (fun x => decide (md x.txn = 0)) (fun W x hb => waitcl_any (h2.below hb) x b1 ((hb.cell (p := ⟨b1, 0, none⟩) (Array.getElem?_eq_some_iff.1 hx1').1).trans (by rw [cell_of_block hx1']; rfl))) (enters_of Tryz.func51 (by kernel_rfl) rfl))
  -- the end, whatever the place
  have HEND := Lib.hid (fun (WX : World) (i : Nat) (hi : i ≤ n) (hw : waitQ md q l = q.take i ++ l :: q.drop i) (hbx : Below W2.heap.size W2 WX) (W5 w6 : World) (v' : Value) (h5 : Below WX.heap.size WX W5) (ho : OwL w6 B v' (q.take i ++ l :: q.drop i)) (hg : W5.grownBy w6 qv.ownBlock) (hnb : NewB W5 qv v') =>
    show P (.returned (.tuple #[])) (w6.setCell ⟨g, 8, none⟩ v') ∧ w6.cell? ⟨g, 8, none⟩ = some qv ∧ w6.frozen? ⟨g, 8, none⟩ = false ∧ w6.cell? ⟨b1, 0, none⟩ = some (.pointer (some ⟨g, 0, none⟩)) by
    have hW5 : Below w.heap.size w W5 := (hbe.trans (hbx.mono hbe.size)).trans (h5.mono (Nat.le_trans hbe.size hbx.size))
    have h5' := h.below hW5
    have hf : Frm (fun k => qv.ownBlock = some k) W5 w6 := Frm.grown (F := fun k => qv.ownBlock = some k) (Frm.refl _ W5) hg (fun k hk => .inl hk)
    have hng : ¬ qv.ownBlock = some g := fun e => (h.own g e).1 rfl
    have hx : w6.heap[g]? = some (.cells (thC mb cn qv) 59 (0, 0)) := (hf.heap h5'.lt hng).trans h5'.box
    have hl1 := (Array.getElem?_eq_some_iff.1 hx1').1
    have hb15 : b1 < W5.heap.size := by have := hbx.size; have := h5.size; omega
    refine ⟨?_, by rw [cell_of_block hx]; rfl, unfrozen_of_block hx 8, ?_⟩
    rotate_left
    · rw [hf.cell hb15 (fun hk => by have := (World.ownsRow.lt h.qr b1 hk).2; omega), h5.cell (p := ⟨b1, 0, none⟩) (by have := hbx.size; show b1 < WX.heap.size; omega), hbx.cell (p := ⟨b1, 0, none⟩) hl1, cell_of_block hx1']; rfl
    rw [← HP.out]
    have hf2 : Frm (fun k => k = g) w6 (w6.setCell ⟨g, 8, none⟩ v') := Frm.set1 (F := fun k => k = g) w6 rfl _ _
    obtain ⟨n', hm'⟩ := h5'.mp
    have hs5 := hW5.size
    have hlg := h.lt
    refine ⟨v', rfl, ⟨?_, ⟨n', (hm'.step hf (fun e => (h.own mb e).2 rfl)).step hf2 (fun e => h.ne e.symm)⟩, ?_⟩, ?_, ?_⟩
    · rw [setCell_eq_setRow w6 g 8 _ _ _ _ hx, setRow_heap w6 g _ _ _ _ hx]; rfl
    · rw [hw]
      refine hf2.owL ho (fun k hk e => ?_)
      rcases hnb k hk with e2 | e2
      · exact hng (by rw [← e]; exact e2)
      · omega
    · intro k hk
      rcases hnb k hk with e2 | e2
      · exact .inl e2
      · exact .inr (by omega)
    · exact (((Frm.of_below hW5).trans hf (fun k hk => .inl hk)).mono fun k hk => .inr hk).trans (hf2.mono (F1 := fun k => k = g ∨ qv.ownBlock = some k) fun k hk => .inl hk) (New.refl _ _))
  have HINS := Lib.hid (fun (WX : World) (i : Nat) (hi : i ≤ n) (hbx : Below W2.heap.size W2 WX) (W5 : World) (gv : Nat) (hgv : WX.heap.size ≤ gv) (h5 : Below WX.heap.size WX W5) (hbox : BoxL W5 gv l) =>
    ins_any B W5 (by have := hbe.size; have := hbx.size; have := h5.size; omega) qv q ((h2.below (hbx.trans (h5.mono hbx.size))).qr) (by omega) i (by omega) l gv hbox (fun e => by have := (World.ownsRow.lt h2.qr gv e).2; have := hbx.size; omega))
  clear h h2 hbe1 hbe2 hbe hx1 hx1' hx2 hqv hn
  rw [HQV.out] at HINS HIX
  by_cases cz : md l.txn = 0
  · have hwq := waitQ_end (q := q) cz
    rw [HN.out] at hwq
    have HWQ := Lib.hid hwq
    rw [cz] at HHAS
    simp only [decide_true, Bool.not_true] at HHAS
    clear cz hwq
    go_enter Tryz.func22, Tryz.ntmps22
    go_upto_region 1 with fail
    try rw [hb1]
    try rw [hW1]
    try rw [hz1]
    try rw [hW2]
    clear hW1 hW2 hb1
    go_wp2_with fail
    refine HHAS.out.mono ?_
    rintro e w3 ⟨rfl, rfl⟩
    have HBX : Hid (Below W2.heap.size W2 W2) := Below.refl _ _
    have hi : n ≤ n := Nat.le_refl _
    go_wp2_with fail
    have HE := Lib.hid (fun W5 w6 v' => HEND.out W2 n hi HWQ.out HBX.out W5 w6 v')
    have HI := Lib.hid (fun W5 gv => HINS.out W2 n hi HBX.out W5 gv)
    have hsz := HBX.out.size
    have lg : g < W2.heap.size := Nat.lt_of_lt_of_le LTS.out.1 hsz
    have l1 : b1 < W2.heap.size := Nat.lt_of_lt_of_le LTS.out.2.1 hsz
    have l2 : b1 + 1 < W2.heap.size := Nat.lt_of_lt_of_le LTS.out.2.2 hsz
    have c8' := (HBX.out.cell (p := ⟨g, 8, none⟩) LTS.out.1).trans c8
    have d0' := (HBX.out.cell (p := ⟨b1, 0, none⟩) LTS.out.2.1).trans d0
    have e0' := (HBX.out.cell (p := ⟨b1 + 1, 0, none⟩) LTS.out.2.2).trans e0
    have e1' := (HBX.out.cell (p := ⟨b1 + 1, 1, none⟩) LTS.out.2.2).trans e1
    have e2' := (HBX.out.cell (p := ⟨b1 + 1, 2, none⟩) LTS.out.2.2).trans e2
    clear HEND HINS HIX HHAS c8 d0 e0 e1 e2 hsz
    obtain ⟨W5, hW5⟩ : ∃ W, W2.alloc (.cells #[.int .i64 l.txn, .string ⟨l.res.toArray⟩, .int .i64 l.mode] 42) = W := ⟨_, rfl⟩
    have hb5 : Below W2.heap.size W2 W5 := by rw [← hW5]; exact (Below.refl _ _).alloc (Nat.le_refl _) _
    have hx5 : BoxL W5 W2.heap.size l := by rw [← hW5]; exact heap_alloc_new W2 _
    have HI5 := Lib.hid (HI.out W5 W2.heap.size (Nat.le_refl _) hb5 hx5)
    have HI5d := Lib.hid (HI.out W5.drew W2.heap.size (Nat.le_refl _) hb5.drew hx5)
    have HB5 := Lib.hid hb5
    have HW5 := Lib.hid hW5
    clear hb5 hx5 hW5 HI
    go_region_law (first | (go_simp; go_at_call 52; rw [HW5.out]; refine HI5d.out.mono ?_; rintro e w6 ⟨v', rfl, ho, hg, hnb⟩; obtain ⟨xa, xn, xc, rfl⟩ := ho.sl'; obtain ⟨p1, p2, p3, p4⟩ := HE.out W5.drew w6 _ HB5.out.drew ho (by rw [HQV.out]; exact hg) (by rw [HQV.out]; exact hnb); rw [HQV.out] at p2; have HPF := Lib.hid p1; clear p1 ho hg hnb))
    all_goals
      go_wp2_with fail
      exact bodyPost_ret (v := .tuple #[]) (by simp [results, Tryz.results22, go_sem]) rfl HPF.out

  · have hd : decide (md l.txn = 0) = false := decide_eq_false cz
    rw [hd, Bool.not_false] at HHAS
    have hwq := waitQ_at (q := q) cz
    have hle : (q.takeWhile fun x => !decide (md x.txn = 0)).length ≤ q.length := (List.takeWhile_prefix _).length_le
    rw [HN.out] at hle
    unfold fidx at HIX
    rw [HN.out] at HIX
    obtain ⟨i, hi⟩ : ∃ i, (q.takeWhile fun x => !decide (md x.txn = 0)).length = i := ⟨_, rfl⟩
    rw [hi] at hwq hle HIX
    have HWQ := Lib.hid hwq
    have HC8 := Lib.hid (fun (wx : World) (hb : Below W2.heap.size W2 wx) => (hb.cell (p := ⟨g, 8, none⟩) HH.out.lt).trans c8)
    clear cz hd hwq hi
    by_cases ci : i = n
    · subst ci
      rw [if_pos rfl] at HIX
      have HD0 := Lib.hid (fun (wx : World) (hb : Below W2.heap.size W2 wx) => (hb.cell (p := ⟨b1, 0, none⟩) (Array.getElem?_eq_some_iff.1 HX1.out).1).trans d0)
      go_enter Tryz.func22, Tryz.ntmps22
      go_upto_region 1 with fail
      try rw [hb1]
      try rw [hW1]
      try rw [hz1]
      try rw [hW2]
      clear hW1 hW2 hb1
      go_wp2_with fail
      refine HHAS.out.mono ?_
      rintro e w3 ⟨rfl, rfl⟩
      go_wp2_with fail
      refine HIX.out.mono ?_
      rintro e w4 ⟨rfl, hb4⟩
      have HBX := Lib.hid hb4
      have c9 := HC8.out w4 hb4
      have d9 := HD0.out w4 hb4
      clear hb4
      go_wp2_with fail
      have hi := hle
      have HE := Lib.hid (fun W5 w6 v' => HEND.out w4 i hi HWQ.out HBX.out W5 w6 v')
      have HI := Lib.hid (fun W5 gv => HINS.out w4 i hi HBX.out W5 gv)
      have hsz := HBX.out.size
      have lg : g < w4.heap.size := Nat.lt_of_lt_of_le LTS.out.1 hsz
      have l1 : b1 < w4.heap.size := Nat.lt_of_lt_of_le LTS.out.2.1 hsz
      have l2 : b1 + 1 < w4.heap.size := Nat.lt_of_lt_of_le LTS.out.2.2 hsz
      have c8' := (HBX.out.cell (p := ⟨g, 8, none⟩) LTS.out.1).trans c8
      have d0' := (HBX.out.cell (p := ⟨b1, 0, none⟩) LTS.out.2.1).trans d0
      have e0' := (HBX.out.cell (p := ⟨b1 + 1, 0, none⟩) LTS.out.2.2).trans e0
      have e1' := (HBX.out.cell (p := ⟨b1 + 1, 1, none⟩) LTS.out.2.2).trans e1
      have e2' := (HBX.out.cell (p := ⟨b1 + 1, 2, none⟩) LTS.out.2.2).trans e2
      clear HEND HINS HIX HHAS c8 d0 e0 e1 e2 hsz
      obtain ⟨W5, hW5⟩ : ∃ W, w4.alloc (.cells #[.int .i64 l.txn, .string ⟨l.res.toArray⟩, .int .i64 l.mode] 42) = W := ⟨_, rfl⟩
      have hb5 : Below w4.heap.size w4 W5 := by rw [← hW5]; exact (Below.refl _ _).alloc (Nat.le_refl _) _
      have hx5 : BoxL W5 w4.heap.size l := by rw [← hW5]; exact heap_alloc_new w4 _
      have HI5 := Lib.hid (HI.out W5 w4.heap.size (Nat.le_refl _) hb5 hx5)
      have HI5d := Lib.hid (HI.out W5.drew w4.heap.size (Nat.le_refl _) hb5.drew hx5)
      have HB5 := Lib.hid hb5
      have HW5 := Lib.hid hW5
      clear hb5 hx5 hW5 HI
      go_region_law (first | (go_simp; go_at_call 52; rw [HW5.out]; refine HI5d.out.mono ?_; rintro e w6 ⟨v', rfl, ho, hg, hnb⟩; obtain ⟨xa, xn, xc, rfl⟩ := ho.sl'; obtain ⟨p1, p2, p3, p4⟩ := HE.out W5.drew w6 _ HB5.out.drew ho (by rw [HQV.out]; exact hg) (by rw [HQV.out]; exact hnb); rw [HQV.out] at p2; have HPF := Lib.hid p1; clear p1 ho hg hnb))
      all_goals
        go_wp2_with fail
        exact bodyPost_ret (v := .tuple #[]) (by simp [results, Tryz.results22, go_sem]) rfl HPF.out

    · rw [if_neg ci] at HIX
      have h0 : decide ((i : Int) < 0) = false := by simp
      have h1 : ¬ (i : Int) < 0 := by omega
      go_enter Tryz.func22, Tryz.ntmps22
      go_upto_region 1 with fail
      try rw [hb1]
      try rw [hW1]
      try rw [hz1]
      try rw [hW2]
      clear hW1 hW2 hb1
      go_wp2_with fail
      refine HHAS.out.mono ?_
      rintro e w3 ⟨rfl, rfl⟩
      go_wp2_with fail
      refine HIX.out.mono ?_
      rintro e w4 ⟨rfl, hb4⟩
      have HBX := Lib.hid hb4
      clear hb4
      go_wp2_with fail
      have hi := hle
      have HE := Lib.hid (fun W5 w6 v' => HEND.out w4 i hi HWQ.out HBX.out W5 w6 v')
      have HI := Lib.hid (fun W5 gv => HINS.out w4 i hi HBX.out W5 gv)
      have hsz := HBX.out.size
      have lg : g < w4.heap.size := Nat.lt_of_lt_of_le LTS.out.1 hsz
      have l1 : b1 < w4.heap.size := Nat.lt_of_lt_of_le LTS.out.2.1 hsz
      have l2 : b1 + 1 < w4.heap.size := Nat.lt_of_lt_of_le LTS.out.2.2 hsz
      have c8' := (HBX.out.cell (p := ⟨g, 8, none⟩) LTS.out.1).trans c8
      have d0' := (HBX.out.cell (p := ⟨b1, 0, none⟩) LTS.out.2.1).trans d0
      have e0' := (HBX.out.cell (p := ⟨b1 + 1, 0, none⟩) LTS.out.2.2).trans e0
      have e1' := (HBX.out.cell (p := ⟨b1 + 1, 1, none⟩) LTS.out.2.2).trans e1
      have e2' := (HBX.out.cell (p := ⟨b1 + 1, 2, none⟩) LTS.out.2.2).trans e2
      clear HEND HINS HIX HHAS c8 d0 e0 e1 e2 hsz
      obtain ⟨W5, hW5⟩ : ∃ W, w4.alloc (.cells #[.int .i64 l.txn, .string ⟨l.res.toArray⟩, .int .i64 l.mode] 42) = W := ⟨_, rfl⟩
      have hb5 : Below w4.heap.size w4 W5 := by rw [← hW5]; exact (Below.refl _ _).alloc (Nat.le_refl _) _
      have hx5 : BoxL W5 w4.heap.size l := by rw [← hW5]; exact heap_alloc_new w4 _
      have HI5 := Lib.hid (HI.out W5 w4.heap.size (Nat.le_refl _) hb5 hx5)
      have HI5d := Lib.hid (HI.out W5.drew w4.heap.size (Nat.le_refl _) hb5.drew hx5)
      have HB5 := Lib.hid hb5
      have HW5 := Lib.hid hW5
      clear hb5 hx5 hW5 HI
      go_region_law (first | (go_simp; go_at_call 52; rw [HW5.out]; refine HI5d.out.mono ?_; rintro e w6 ⟨v', rfl, ho, hg, hnb⟩; obtain ⟨xa, xn, xc, rfl⟩ := ho.sl'; obtain ⟨p1, p2, p3, p4⟩ := HE.out W5.drew w6 _ HB5.out.drew ho (by rw [HQV.out]; exact hg) (by rw [HQV.out]; exact hnb); rw [HQV.out] at p2; have HPF := Lib.hid p1; clear p1 ho hg hnb))
      all_goals
        go_wp2_with fail
        exact bodyPost_ret (v := .tuple #[]) (by simp [results, Tryz.results22, go_sem]) rfl HPF.out

end
end Go.Proofs.YtelfinhpjokmdaaGreatDoor

namespace Go.Proofs.YtelfinhpjokmdaaGreatDoor
set_option maxRecDepth 100000
set_option linter.unusedVariables false
set_option linter.unusedSectionVars false
set_option linter.unnecessarySimpa false
set_option linter.unusedSimpArgs false

section
variable {R : Type} [DecidableEq R] (O : OrdR R) (M : Mds)
/-- a thing that lies there since it has a lock -/
theorem RelP.rxd {T : TbL R} {S : TS R} {t : Int} {rest rx : List R} {s : R} {m0 : R → Int} (h : RelP T S t rest (s :: rx) m0) (hs : ∃ x ∈ T.hv, x.res = s) : RelP T S t rest rx m0 :=
  ⟨h.md, h.cn, h.qr, h.qu, fun s' => by
    rw [h.ex, List.mem_cons]
    constructor
    · rintro ((e | e) | e)
      · rw [e]; exact .inr hs
      · exact .inl e
      · exact .inr e
    · rintro (e | e)
      · exact .inl (.inr e)
      · exact .inr e, h.nd, h.hs, h.ws⟩
/-- a new thing -/
theorem RelP.rxn {T : TbL R} {S : TS R} {t : Int} {rest rx : List R} {s : R} {m0 : R → Int} (h : RelP T S t rest rx m0) : RelP T ⟨S.md, S.cn, S.qu, fun s' => if s' = s then true else S.ex s', S.hs, S.ws⟩ t rest (s :: rx) m0 :=
  ⟨h.md, h.cn, h.qr, h.qu, fun s' => by
    show (if s' = s then true else S.ex s') = true ↔ _
    rw [List.mem_cons]
    by_cases c : s' = s
    · rw [if_pos c]; exact ⟨fun _ => .inl (.inl c), fun _ => rfl⟩
    · rw [if_neg c, h.ex]
      constructor
      · rintro (e | e)
        · exact .inl (.inr e)
        · exact .inr e
      · rintro ((e | e) | e)
        · exact absurd e c
        · exact .inl e
        · exact .inr e, h.nd, h.hs, h.ws⟩
theorem RelT.mdE {T : TbL R} {S : TS R} (h : RelT T S) (s : R) (t : Int) : S.md s t = mdO T.hv t s := by rw [h.md, if_neg (fun e => by cases e.1)]
theorem RelT.quE {T : TbL R} {S : TS R} (h : RelT T S) (s : R) : S.qu s = que T.wt s := h.qu s (by simp)
/-- where there is no thing nobody has it, nobody waits -/
theorem RelT.noE {T : TbL R} {S : TS R} (h : RelT T S) (hi : InvL O M T) {s : R} (hs : S.ex s = false) (t : Int) : mdO T.hv t s = 0 ∧ que T.wt s = [] ∧ ∀ m, can M T.hv ⟨t, s, m⟩ = true := by
  have hno : ∀ x ∈ T.hv, x.res ≠ s := fun x hx e => by
    have := (h.ex s).2 (.inr ⟨x, hx, e⟩)
    rw [hs] at this; cases this
  have hc : ∀ u m, can M T.hv ⟨u, s, m⟩ = true := fun u m => (can_iff M).2 fun x hx e _ => absurd e (hno x hx)
  refine ⟨mdO_none fun x hx e => hno x hx e.2, ?_, fun m => hc t m⟩
  cases hq : que T.wt s with
  | nil => rfl
  | cons l q =>
    have := hi.bar s l q hq
    have hr := (mem_que.1 (show l ∈ que T.wt s by rw [hq]; exact List.mem_cons_self ..)).1
    have e : (⟨l.txn, s, l.mode⟩ : Lk R) = l := by rw [← hr]
    rw [← e, hc] at this
    cases this
theorem ask_ref {T : TbL R} {t : Int} {s : R} {m : Int} (h : M.right m = false ∨ (wsh T.wt t).isSome = true) : askL O M T t s m = (T, 0) := by unfold askL; rw [if_pos h]
theorem ask_same {T : TbL R} {t : Int} {s : R} {m : Int} (h : ¬ (M.right m = false ∨ (wsh T.wt t).isSome = true)) (h2 : M.jn (mdO T.hv t s) m = mdO T.hv t s) : askL O M T t s m = (T, 1) := by unfold askL; rw [if_neg h, if_pos h2]
theorem ask_give {T : TbL R} {t : Int} {s : R} {m : Int} (h : ¬ (M.right m = false ∨ (wsh T.wt t).isSome = true)) (h2 : M.jn (mdO T.hv t s) m ≠ mdO T.hv t s) (h3 : can M T.hv ⟨t, s, M.jn (mdO T.hv t s) m⟩ = true ∧ (mdO T.hv t s ≠ 0 ∨ que T.wt s = [])) :
    askL O M T t s m = (⟨gv O ⟨t, s, M.jn (mdO T.hv t s) m⟩ T.hv, T.wt⟩, 1) := by unfold askL; rw [if_neg h, if_neg h2, if_pos h3]
theorem ask_wait {T : TbL R} {t : Int} {s : R} {m : Int} (h : ¬ (M.right m = false ∨ (wsh T.wt t).isSome = true)) (h2 : M.jn (mdO T.hv t s) m ≠ mdO T.hv t s) (h3 : ¬ (can M T.hv ⟨t, s, M.jn (mdO T.hv t s) m⟩ = true ∧ (mdO T.hv t s ≠ 0 ∨ que T.wt s = []))) :
    askL O M T t s m = (⟨T.hv, T.wt ++ [⟨⟨t, s, M.jn (mdO T.hv t s) m⟩, !decide (mdO T.hv t s = 0)⟩]⟩, 2) := by unfold askL; rw [if_neg h, if_neg h2, if_neg h3]
end

end Go.Proofs.YtelfinhpjokmdaaGreatDoor
