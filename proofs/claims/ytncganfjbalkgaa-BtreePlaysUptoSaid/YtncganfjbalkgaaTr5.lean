/-
  The tree in memory: nodes, what hangs below them, and what these are; plain facts about them.
  Conditions: none.
-/
import Derived.Test.YtncganfjbalkgaaTr4
import Derived.Test.YtncganfjbalkgaaEn3
namespace Go.Proofs.Ytncganfjbalkgaa
open Go.RowKit Go.Joins Go.ChangeShapes Go.WideShapes
set_option linter.unusedVariables false

/-- a child: its bound, the number beside it, its block, its blocks, its parts, its entries -/
structure Kd where
  key : ByteArray
  id : Int
  g : Nat
  F : Bl
  ps : List Pv
  es : List Ent
def Kd.pv (c : Kd) : Pv := (c.key, c.id, some c.g)
abbrev Kd.k (c : Kd) : List Nat := sl c.key
/-- a node's blocks: its own, its row's, and what hangs below it -/
def Fo (g : Nat) (v : Value) (G : Bl) : Bl := fun k => k = g ∨ v.ownBlock = some k ∨ G k
abbrev Cn4 := World → Bl → List Nat → List Pv → List Ent → Prop
structure SubOf (C : Cn4) (B : Nat) (w : World) (F : Bl) (g : Nat) (lo : List Nat) (ps : List Pv) (es : List Ent) (v : Value) (G : Bl) : Prop where
  nd : NdAt B w g v ps
  con : C w G lo ps es
  apart : ∀ k, G k → k ≠ g ∧ v.ownBlock ≠ some k ∧ B ≤ k ∧ k < w.heap.size
  foot : F = Fo g v G
structure Kids (S : World → Bl → Nat → List Nat → List Pv → List Ent → Prop) (w : World) (G : Bl) (ks : List Kd) : Prop where
  sub : ∀ c ∈ ks, S w c.F c.g c.k c.ps c.es
  rise : ks.Pairwise fun a b => klt a.k b.k ∧ (∀ e ∈ a.es, klt e.1 b.k) ∧ ∀ k, a.F k → ¬ b.F k
  foot : G = fun k => ∃ c ∈ ks, c.F k
def Sz (ks : List Kd) : Prop := ∀ c ∈ ks, 4 ≤ c.ps.length ∧ c.ps.length ≤ 8
/-- what hangs below a list of parts: nothing at a leaf; d + 1: children of depth d -/
def Cont (B : Nat) : Nat → Cn4
  | 0 => fun w G lo ps es => G = (fun _ => False) ∧ (∀ p ∈ ps, p.2.2 = none) ∧ es = ents ps ∧ Srt es ∧ ∀ e ∈ es, ¬ klt e.1 lo
  | d + 1 => fun w G lo ps es => ∃ ks, Kids (fun w F g lo ps es => ∃ v G, SubOf (Cont B d) B w F g lo ps es v G) w G ks ∧ Sz ks ∧ ps = ks.map Kd.pv ∧ es = ks.flatMap Kd.es ∧ (ks.head?.map Kd.k) = some lo
/-- a tree of depth d below node g: all its keys are not ahead of lo -/
def Sub (B d : Nat) (w : World) (F : Bl) (g : Nat) (lo : List Nat) (ps : List Pv) (es : List Ent) : Prop := ∃ v G, SubOf (Cont B d) B w F g lo ps es v G
theorem cont_succ {B d : Nat} {w : World} {G : Bl} {lo : List Nat} {ps : List Pv} {es : List Ent} : Cont B (d + 1) w G lo ps es ↔ ∃ ks, Kids (Sub B d) w G ks ∧ Sz ks ∧ ps = ks.map Kd.pv ∧ es = ks.flatMap Kd.es ∧ (ks.head?.map Kd.k) = some lo := Iff.rfl

theorem SubOf.low {C : Cn4} {B : Nat} {w : World} {F : Bl} {g : Nat} {lo : List Nat} {ps : List Pv} {es : List Ent} {v : Value} {G : Bl} (h : SubOf C B w F g lo ps es v G) : ∀ k, F k → B ≤ k ∧ k < w.heap.size := by
  intro k hk
  rw [h.foot] at hk
  rcases hk with rfl | hk | hk
  · exact ⟨h.nd.bg, h.nd.lt⟩
  · exact h.nd.own.lt k hk
  · exact (h.apart k hk).2.2
theorem Sub.low {B d : Nat} {w : World} {F : Bl} {g : Nat} {lo : List Nat} {ps : List Pv} {es : List Ent} (h : Sub B d w F g lo ps es) : ∀ k, F k → B ≤ k ∧ k < w.heap.size := by
  obtain ⟨v, G, h⟩ := h
  exact h.low
theorem SubOf.step {C : Cn4} {B : Nat} {w w1 : World} {F F1 : Bl} {g : Nat} {lo : List Nat} {ps : List Pv} {es : List Ent} {v : Value} {G : Bl}
    (hC : C w G lo ps es → (∀ k, G k → ¬ F1 k) → C w1 G lo ps es) (h : SubOf C B w F g lo ps es v G) (hf : Frm F1 w w1) (hd : ∀ k, F k → ¬ F1 k) : SubOf C B w1 F g lo ps es v G := by
  have hd2 : ∀ k, Fo g v G k → ¬ F1 k := by rw [← h.foot]; exact hd
  exact ⟨h.nd.step hf (hd2 g (.inl rfl)) (fun k hk => hd2 k (.inr (.inl hk))), hC h.con (fun k hk => hd2 k (.inr (.inr hk))), fun k hk => by
    obtain ⟨a, b, c, d⟩ := h.apart k hk
    exact ⟨a, b, c, Nat.lt_of_lt_of_le d hf.size⟩, h.foot⟩
theorem Cont.step {B : Nat} : ∀ {d : Nat} {w w1 : World} {G F1 : Bl} {lo : List Nat} {ps : List Pv} {es : List Ent}, Cont B d w G lo ps es → Frm F1 w w1 → (∀ k, G k → ¬ F1 k) → Cont B d w1 G lo ps es
  | 0, _, _, _, _, _, _, _, h, _, _ => h
  | d + 1, w, w1, G, F1, lo, ps, es, h, hf, hd => by
    obtain ⟨ks, hk, hs, hp, he, hl⟩ := cont_succ.1 h
    refine cont_succ.2 ⟨ks, ⟨fun c hc => ?_, hk.rise, hk.foot⟩, hs, hp, he, hl⟩
    obtain ⟨v, G', h'⟩ := hk.sub c hc
    exact ⟨v, G', h'.step (fun hc' hg => Cont.step hc' hf hg) hf (fun k hk' => hd k (by rw [hk.foot]; exact ⟨c, hc, hk'⟩))⟩
theorem Sub.step {B d : Nat} {w w1 : World} {F F1 : Bl} {g : Nat} {lo : List Nat} {ps : List Pv} {es : List Ent} (h : Sub B d w F g lo ps es) (hf : Frm F1 w w1) (hd : ∀ k, F k → ¬ F1 k) : Sub B d w1 F g lo ps es := by
  obtain ⟨v, G, h⟩ := h
  exact ⟨v, G, h.step (fun hc hg => hc.step hf hg) hf hd⟩
theorem Sub.below {B d : Nat} {w w1 : World} {F : Bl} {g : Nat} {lo : List Nat} {ps : List Pv} {es : List Ent} (h : Sub B d w F g lo ps es) (hb : Below w.heap.size w w1) : Sub B d w1 F g lo ps es :=
  h.step (Frm.of_below (F := fun _ => False) hb) (fun _ _ h => h)

theorem head_le {ks : List Kd} {lo : List Nat} (hr : ks.Pairwise fun a b => klt a.k b.k ∧ (∀ e ∈ a.es, klt e.1 b.k) ∧ ∀ k, a.F k → ¬ b.F k) (hl : (ks.head?.map Kd.k) = some lo) {c : Kd} (hc : c ∈ ks) : ¬ klt c.k lo := by
  cases ks with
  | nil => cases hc
  | cons a r =>
    simp only [List.head?_cons, Option.map_some, Option.some.injEq] at hl
    subst hl
    rcases List.mem_cons.1 hc with rfl | hc
    · exact klt_irr _
    · exact klt_asym ((List.pairwise_cons.1 hr).1 c hc).1
theorem Cont.lo {B : Nat} : ∀ {d : Nat} {w : World} {G : Bl} {lo : List Nat} {ps : List Pv} {es : List Ent}, Cont B d w G lo ps es → ∀ e ∈ es, ¬ klt e.1 lo
  | 0, _, _, _, _, _, h => h.2.2.2.2
  | d + 1, w, G, lo, ps, es, h => by
    obtain ⟨ks, hk, hs, hp, rfl, hl⟩ := cont_succ.1 h
    intro e he
    obtain ⟨c, hc, hec⟩ := List.mem_flatMap.1 he
    obtain ⟨v, G', h'⟩ := hk.sub c hc
    exact nklt_trans (Cont.lo h'.con e hec) (head_le hk.rise hl hc)
theorem Cont.srt {B : Nat} : ∀ {d : Nat} {w : World} {G : Bl} {lo : List Nat} {ps : List Pv} {es : List Ent}, Cont B d w G lo ps es → Srt es
  | 0, _, _, _, _, _, h => h.2.2.2.1
  | d + 1, w, G, lo, ps, es, h => by
    obtain ⟨ks, hk, hs, hp, rfl, hl⟩ := cont_succ.1 h
    unfold Srt
    rw [List.pairwise_flatMap]
    refine ⟨fun c hc => ?_, ?_⟩
    · obtain ⟨v, G', h'⟩ := hk.sub c hc
      exact Cont.srt h'.con
    · refine (List.Pairwise.imp_of_mem ?_ hk.rise)
      intro a b ha hb hab x hx y hy
      obtain ⟨v, G', h'⟩ := hk.sub b hb
      exact klt_of_not' (hab.2.1 x hx) (Cont.lo h'.con y hy)
theorem ents_kids (ks : List Kd) : ents (ks.map Kd.pv) = ks.map fun c => (c.k, c.id) := by
  unfold ents
  rw [List.map_map]
  rfl
theorem Kids.srt {S : World → Bl → Nat → List Nat → List Pv → List Ent → Prop} {w : World} {G : Bl} {ks : List Kd} (h : Kids S w G ks) : Srt (ents (ks.map Kd.pv)) := by
  rw [ents_kids]
  unfold Srt
  rw [List.pairwise_map]
  exact h.rise.imp fun h => h.1
theorem Cont.keys {B : Nat} {d : Nat} {w : World} {G : Bl} {lo : List Nat} {ps : List Pv} {es : List Ent} (h : Cont B d w G lo ps es) : Srt (ents ps) := by
  cases d with
  | zero => rw [← h.2.2.1]; exact h.2.2.2.1
  | succ d =>
    obtain ⟨ks, hk, hs, rfl, he, hl⟩ := cont_succ.1 h
    exact hk.srt
theorem Cont.ne {B : Nat} : ∀ {d : Nat} {w : World} {G : Bl} {lo : List Nat} {ps : List Pv} {es : List Ent}, Cont B d w G lo ps es → ps ≠ [] → es ≠ []
  | 0, _, _, _, _, _, h, hn => by
    rw [h.2.2.1]
    unfold ents
    simpa using hn
  | d + 1, w, G, lo, ps, es, h, hn => by
    obtain ⟨ks, hk, hs, rfl, rfl, hl⟩ := cont_succ.1 h
    cases ks with
    | nil => exact absurd rfl hn
    | cons c r =>
      obtain ⟨v, G', h'⟩ := hk.sub c (List.mem_cons_self ..)
      have := Cont.ne h'.con (fun e => by have := (hs c (List.mem_cons_self ..)).1; rw [e] at this; simp at this)
      rw [List.flatMap_cons]
      exact fun e => this (List.append_eq_nil_iff.1 e).1

/-- children of a part of a list -/
theorem Kids.part {S : World → Bl → Nat → List Nat → List Pv → List Ent → Prop} {w : World} {G : Bl} {ks kt : List Kd} (h : Kids S w G ks) (hs : kt.Sublist ks) : Kids S w (fun k => ∃ c ∈ kt, c.F k) kt :=
  ⟨fun c hc => h.sub c (hs.subset hc), h.rise.sublist hs, rfl⟩
theorem Sz.part {ks kt : List Kd} (h : Sz ks) (hs : ∀ c ∈ kt, c ∈ ks) : Sz kt := fun c hc => h c (hs c hc)

theorem take_drop_at {α : Type} {l : List α} {i : Nat} {x : α} (h : l[i]? = some x) : l = l.take i ++ x :: l.drop (i + 1) := by
  obtain ⟨h1, h2⟩ := List.getElem?_eq_some_iff.1 h
  conv => lhs; rw [← List.take_append_drop i l, List.drop_eq_getElem_cons h1, h2]
theorem drop_cons {α : Type} {l : List α} {i : Nat} {x : α} (h : l[i]? = some x) : l.drop i = x :: l.drop (i + 1) := by
  obtain ⟨h1, h2⟩ := List.getElem?_eq_some_iff.1 h
  rw [List.drop_eq_getElem_cons h1, h2]
/-- the first key is not ahead of the bound -/
theorem Cont.head {B d : Nat} {w : World} {G : Bl} {lo : List Nat} {ps : List Pv} {es : List Ent} (h : Cont B d w G lo ps es) {p : Pv} (hp : ps[0]? = some p) : ¬ klt (sl p.1) lo := by
  cases d with
  | zero =>
    refine h.2.2.2.2 (sl p.1, p.2.1) ?_
    rw [h.2.2.1]
    exact List.mem_map.2 ⟨p, List.mem_of_getElem? hp, rfl⟩
  | succ d =>
    obtain ⟨ks, hk, hs, rfl, he, hl⟩ := cont_succ.1 h
    rw [List.getElem?_map] at hp
    obtain ⟨c, hc, rfl⟩ := Option.map_eq_some_iff.1 hp
    exact head_le hk.rise hl (List.mem_of_getElem? hc)
theorem Cont.lo_lt {B d : Nat} {w : World} {G : Bl} {lo : List Nat} {ps : List Pv} {es : List Ent} (h : Cont B d w G lo ps es) {i : Nat} {p : Pv} (h0 : 0 < i) (hi : ps[i]? = some p) : klt lo (sl p.1) := by
  have hl := (List.getElem?_eq_some_iff.1 hi).1
  have hq : ps[0]? = some (ps[0]'(by omega)) := List.getElem?_eq_getElem _
  have h1 := h.head hq
  have h2 := (List.pairwise_iff_getElem.1 h.keys) 0 i (by unfold ents; simp; omega) (by unfold ents; simp; omega) h0
  simp only [ents, List.getElem_map] at h2
  rw [(List.getElem?_eq_some_iff.1 hi).2] at h2
  exact klt_of_not h1 h2
/-- a list of parts falls into two -/
theorem Cont.split {B d : Nat} {w : World} {G : Bl} {lo : List Nat} {ps : List Pv} {es : List Ent} (h : Cont B d w G lo ps es) {i : Nat} {p : Pv} (h0 : 0 < i) (hi : ps[i]? = some p) :
    ∃ G1 G2 es1 es2, Cont B d w G1 lo (ps.take i) es1 ∧ Cont B d w G2 (sl p.1) (ps.drop i) es2 ∧ es = es1 ++ es2 ∧ (∀ k, G1 k → G k ∧ ¬ G2 k) ∧ (∀ k, G2 k → G k) ∧ (∀ e ∈ es1, klt e.1 (sl p.1)) := by
  cases d with
  | zero =>
    obtain ⟨rfl, h1, rfl, h3, h4⟩ := h
    have ea : ents ps = ents (ps.take i) ++ ents (ps.drop i) := by unfold ents; rw [← List.map_append, List.take_append_drop]
    have ed : ents (ps.drop i) = (sl p.1, p.2.1) :: ents (ps.drop (i + 1)) := by rw [drop_cons hi]; rfl
    unfold Srt at h3
    rw [ea, List.pairwise_append] at h3
    obtain ⟨s1, s2, s3⟩ := h3
    have hl : ∀ e ∈ ents (ps.take i), e ∈ ents ps := fun e he => by rw [ea]; exact List.mem_append_left _ he
    refine ⟨fun _ => False, fun _ => False, ents (ps.take i), ents (ps.drop i), ⟨rfl, fun p hp => h1 p (List.mem_of_mem_take hp), rfl, s1, fun e he => h4 e (hl e he)⟩, ⟨rfl, fun p hp => h1 p (List.mem_of_mem_drop hp), rfl, s2, ?_⟩, ea, fun _ h => h.elim, fun _ h => h, fun e he => s3 e he (sl p.1, p.2.1) (by rw [ed]; exact List.mem_cons_self ..)⟩
    intro e he
    rw [ed] at s2 he
    rcases List.mem_cons.1 he with rfl | he
    · exact klt_irr _
    · exact klt_asym ((List.pairwise_cons.1 s2).1 e he)
  | succ d =>
    obtain ⟨ks, hk, hs, rfl, rfl, hl⟩ := cont_succ.1 h
    rw [List.getElem?_map] at hi
    obtain ⟨c, hc, rfl⟩ := Option.map_eq_some_iff.1 hi
    have hr := hk.rise
    have ek : ks = ks.take i ++ ks.drop i := (List.take_append_drop i ks).symm
    rw [ek, List.pairwise_append] at hr
    have hcd : c ∈ ks.drop i := by rw [drop_cons hc]; exact List.mem_cons_self ..
    refine ⟨_, _, (ks.take i).flatMap Kd.es, (ks.drop i).flatMap Kd.es, cont_succ.2 ⟨ks.take i, hk.part (List.take_sublist ..), hs.part (fun _ => List.mem_of_mem_take), by rw [List.map_take], rfl, ?_⟩, cont_succ.2 ⟨ks.drop i, hk.part (List.drop_sublist ..), hs.part (fun _ => List.mem_of_mem_drop), by rw [List.map_drop], rfl, ?_⟩, ?_, ?_, ?_, ?_⟩
    · cases ks with
      | nil => simp at hc
      | cons a r => obtain ⟨j, rfl⟩ : ∃ j, i = j + 1 := ⟨i - 1, by omega⟩; exact hl
    · rw [drop_cons hc]; rfl
    · conv => lhs; rw [ek, List.flatMap_append]
    · rintro k ⟨a, ha, hak⟩
      refine ⟨by rw [hk.foot]; exact ⟨a, List.mem_of_mem_take ha, hak⟩, ?_⟩
      rintro ⟨b, hb, hbk⟩
      exact (hr.2.2 a ha b hb).2.2 k hak hbk
    · rintro k ⟨b, hb, hbk⟩
      rw [hk.foot]; exact ⟨b, List.mem_of_mem_drop hb, hbk⟩
    · intro e he
      obtain ⟨a, ha, hae⟩ := List.mem_flatMap.1 he
      exact (hr.2.2 a ha c hcd).2.1 e hae
/-- two lists of parts go together -/
theorem Cont.join {B d : Nat} {w : World} {G1 G2 : Bl} {lo lo2 : List Nat} {p1 p2 : List Pv} {e1 e2 : List Ent} (h1 : Cont B d w G1 lo p1 e1) (h2 : Cont B d w G2 lo2 p2 e2) (hn : p1 ≠ []) (hd : ∀ k, G1 k → ¬ G2 k) (hlt : ∀ e ∈ e1, klt e.1 lo2) (hlo : ¬ klt lo2 lo) :
    Cont B d w (fun k => G1 k ∨ G2 k) lo (p1 ++ p2) (e1 ++ e2) := by
  cases d with
  | zero =>
    have hs2 := h2.srt
    have hs1 := h1.srt
    have hl2 := h2.lo
    obtain ⟨rfl, a1, rfl, a3, a4⟩ := h1
    obtain ⟨rfl, b1, rfl, b3, b4⟩ := h2
    refine ⟨by funext k; simp, ?_, by unfold ents; rw [List.map_append], ?_, ?_⟩
    · intro p hp
      rcases List.mem_append.1 hp with hp | hp
      · exact a1 p hp
      · exact b1 p hp
    · exact List.pairwise_append.2 ⟨a3, b3, fun a ha b hb => klt_of_not' (hlt a ha) (hl2 b hb)⟩
    · intro e he
      rcases List.mem_append.1 he with he | he
      · exact a4 e he
      · exact nklt_trans (b4 e he) hlo
  | succ d =>
    obtain ⟨ks, hk, hs, rfl, rfl, hl⟩ := cont_succ.1 h1
    obtain ⟨kt, ht, hs2, rfl, rfl, hl2⟩ := cont_succ.1 h2
    refine cont_succ.2 ⟨ks ++ kt, ⟨?_, ?_, ?_⟩, ?_, by rw [List.map_append], by rw [List.flatMap_append], ?_⟩
    · intro c hc
      rcases List.mem_append.1 hc with hc | hc
      · exact hk.sub c hc
      · exact ht.sub c hc
    · refine List.pairwise_append.2 ⟨hk.rise, ht.rise, fun a ha b hb => ?_⟩
      have hba := head_le ht.rise hl2 hb
      obtain ⟨v, G', h'⟩ := hk.sub a ha
      have hne := Cont.ne h'.con (fun e => by have := (hs a ha).1; rw [e] at this; simp at this)
      have hall : ∀ e ∈ a.es, klt e.1 b.k := fun e he => klt_of_not' (hlt e (List.mem_flatMap.2 ⟨a, ha, he⟩)) hba
      refine ⟨?_, hall, fun k hak hbk => hd k (by rw [hk.foot]; exact ⟨a, ha, hak⟩) (by rw [ht.foot]; exact ⟨b, hb, hbk⟩)⟩
      cases hes : a.es with
      | nil => exact absurd hes hne
      | cons e r =>
        have he : e ∈ a.es := by rw [hes]; exact List.mem_cons_self ..
        exact klt_of_not (h'.con.lo e he) (hall e he)
    · rw [hk.foot, ht.foot]
      funext k
      simp only [List.mem_append, eq_iff_iff]
      constructor
      · rintro (⟨c, hc, h⟩ | ⟨c, hc, h⟩)
        · exact ⟨c, .inl hc, h⟩
        · exact ⟨c, .inr hc, h⟩
      · rintro ⟨c, hc | hc, h⟩
        · exact .inl ⟨c, hc, h⟩
        · exact .inr ⟨c, hc, h⟩
    · intro c hc
      rcases List.mem_append.1 hc with hc | hc
      · exact hs c hc
      · exact hs2 c hc
    · cases ks with
      | nil => simp at hn
      | cons a r => exact hl

/-- where a key belongs among the children -/
theorem child_split (ks : List Kd) (hr : Srt (ents (ks.map Kd.pv))) (lo k : List Nat) (hl : (ks.head?.map Kd.k) = some lo) (hk : ¬ klt k lo) :
    ∃ A c C, ks = A ++ c :: C ∧ chI (ents (ks.map Kd.pv)) k = (A.length : Nat) ∧ ¬ klt k c.k ∧ ∀ x ∈ C, klt k x.k := by
  have key : ∀ (l : List Kd) (s : Nat), Srt (ents (l.map Kd.pv)) → (∀ c, l.head? = some c → ¬ klt k c.k) → l ≠ [] →
      ∃ A c C, l = A ++ c :: C ∧ (if (ePlN (ents (l.map Kd.pv)) k s).2 then (((ePlN (ents (l.map Kd.pv)) k s).1 : Nat) : Int) else ((ePlN (ents (l.map Kd.pv)) k s).1 : Nat) - 1) = (s : Int) + (A.length : Nat) ∧ ¬ klt k c.k ∧ ∀ x ∈ C, klt k x.k := by
    intro l
    induction l with
    | nil => intro s _ _ h; exact absurd rfl h
    | cons c r ih =>
      intro s hs hh _
      have hck := hh c rfl
      rw [ents_kids, List.map_cons] at hs ⊢
      unfold Srt at hs
      rw [List.pairwise_cons] at hs
      unfold ePlN
      by_cases q : 0 ≤ ordB c.k k
      · rw [if_pos q]
        have hz : ordB c.k k = 0 := by
          unfold klt at hck
          have := ob_turn c.k k
          omega
        refine ⟨[], c, r, rfl, by simp [hz], hck, fun x hx => ?_⟩
        rw [← ob_zero _ _ hz]
        exact hs.1 (x.k, x.id) (List.mem_map.2 ⟨x, hx, rfl⟩)
      · rw [if_neg q]
        cases r with
        | nil => exact ⟨[], c, [], rfl, by simp [ePlN], hck, fun x hx => by cases hx⟩
        | cons b r =>
          by_cases z : klt k b.k
          · refine ⟨[], c, b :: r, rfl, ?_, hck, ?_⟩
            · rw [List.map_cons]
              unfold ePlN
              have z2 := klt_asym z
              unfold klt at z z2
              have hne : ordB b.k k ≠ 0 := by have := ob_turn b.k k; omega
              rw [if_pos (show 0 ≤ ordB (b.k, b.id).1 k by dsimp only; omega)]
              simp [hne]
            · intro x hx
              rcases List.mem_cons.1 hx with rfl | hx
              · exact z
              · exact klt_trans z ((List.pairwise_cons.1 hs.2).1 (x.k, x.id) (List.mem_map.2 ⟨x, hx, rfl⟩))
          · obtain ⟨A, c', C, e, h1, h2, h3⟩ := ih (s + 1) (by rw [ents_kids]; exact hs.2) (fun c hc => by simp at hc; subst hc; exact z) (by simp)
            rw [ents_kids] at h1
            exact ⟨c :: A, c', C, by rw [e]; rfl, by rw [h1]; simp; omega, h2, h3⟩
  have hne : ks ≠ [] := by intro e; rw [e] at hl; simp at hl
  have := key ks 0 hr (fun c hc => by rw [hc] at hl; simp at hl; rw [hl]; exact hk) hne
  obtain ⟨A, c, C, e, h1, h2, h3⟩ := this
  exact ⟨A, c, C, e, by unfold chI ePl; rw [h1]; omega, h2, h3⟩

/-- a key's place in the middle of a list -/
theorem ePlN_left (k : List Nat) : ∀ (L r : List Ent) (s : Nat), (∀ e ∈ L, klt e.1 k) → ePlN (L ++ r) k s = ePlN r k (s + L.length)
  | [], r, s, _ => rfl
  | x :: L, r, s, h => by
    rw [List.cons_append]
    have hx := h x (List.mem_cons_self ..)
    unfold klt at hx
    conv => lhs; unfold ePlN
    rw [if_neg (by omega), ePlN_left k L r (s + 1) (fun e he => h e (List.mem_cons_of_mem _ he)), List.length_cons]
    congr 1
    omega
theorem ePlN_right (k : List Nat) (R : List Ent) (hR : ∀ e ∈ R, klt k e.1) : ∀ (m : List Ent) (s : Nat), ePlN (m ++ R) k s = ePlN m k s
  | [], s => by
    cases R with
    | nil => rfl
    | cons x R =>
      have hx := hR x (List.mem_cons_self ..)
      have h2 := klt_asym hx
      unfold klt at hx h2
      have := ob_turn x.1 k
      show ePlN (x :: R) k s = (s, false)
      unfold ePlN
      rw [if_pos (by omega)]
      congr 1
      simp
      omega
  | x :: m, s => by
    rw [List.cons_append]
    unfold ePlN
    rw [ePlN_right k R hR m (s + 1)]
theorem ePlN_shift (k : List Nat) : ∀ (l : List Ent) (s t : Nat), ePlN l k (s + t) = ((ePlN l k s).1 + t, (ePlN l k s).2)
  | [], s, t => rfl
  | x :: l, s, t => by
    unfold ePlN
    split
    · rfl
    · rw [show s + t + 1 = s + 1 + t by omega, ePlN_shift k l (s + 1) t]
theorem ePl_mid {k : List Nat} {L m R : List Ent} (hL : ∀ e ∈ L, klt e.1 k) (hR : ∀ e ∈ R, klt k e.1) : ePl (L ++ m ++ R) k = (L.length + (ePl m k).1, (ePl m k).2) := by
  unfold ePl
  rw [List.append_assoc, ePlN_left k L _ 0 hL, ePlN_right k R hR, ePlN_shift k m 0 L.length, Nat.add_comm]
theorem ePut_mid {k : List Nat} {id : Int} {L m R : List Ent} (hL : ∀ e ∈ L, klt e.1 k) (hR : ∀ e ∈ R, klt k e.1) : ePut (L ++ m ++ R) k id = L ++ ePut m k id ++ R := by
  have hle := ePl_le m k
  unfold ePut
  rw [ePl_mid hL hR]
  dsimp only
  generalize (ePl m k).1 = i at *
  split
  · rfl
  · rw [List.append_assoc, List.append_assoc L, List.take_length_add_append, List.drop_length_add_append, List.take_append_of_le_length hle.1, List.drop_append_of_le_length hle.1]
    simp only [List.append_assoc]
theorem eDel_mid {k : List Nat} {L m R : List Ent} (hL : ∀ e ∈ L, klt e.1 k) (hR : ∀ e ∈ R, klt k e.1) : eDel (L ++ m ++ R) k = L ++ eDel m k ++ R := by
  have hle := ePl_le m k
  unfold eDel
  rw [ePl_mid hL hR]
  dsimp only
  generalize (ePl m k).1 = i at *
  split
  · rename_i q
    have := hle.2 q
    rw [List.append_assoc, Nat.add_assoc, List.take_length_add_append, List.drop_length_add_append, List.take_append_of_le_length hle.1, List.drop_append_of_le_length this]
    simp only [List.append_assoc]
  · rfl
/-- what ahead of and behind a child is, against a key that belongs in it -/
theorem around {S : World → Bl → Nat → List Nat → List Pv → List Ent → Prop} {w : World} {G : Bl} {A C : List Kd} {c : Kd} (h : Kids S w G (A ++ c :: C)) (hS : ∀ x ∈ C, ∀ e ∈ x.es, ¬ klt e.1 x.k) {k : List Nat} (hk : ¬ klt k c.k) (hC : ∀ x ∈ C, klt k x.k) :
    (∀ e ∈ A.flatMap Kd.es, klt e.1 k) ∧ (∀ e ∈ C.flatMap Kd.es, klt k e.1) := by
  have hr := List.pairwise_append.1 h.rise
  constructor
  · intro e he
    obtain ⟨a, ha, hae⟩ := List.mem_flatMap.1 he
    exact klt_of_not' ((hr.2.2 a ha c (List.mem_cons_self ..)).2.1 e hae) hk
  · intro e he
    obtain ⟨a, ha, hae⟩ := List.mem_flatMap.1 he
    exact klt_of_not' (hC a ha) (hS a ha e hae)

end Go.Proofs.Ytncganfjbalkgaa
