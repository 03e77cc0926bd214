/-
  Texts of mine put together, in build order.
  Conditions: as each declaration says.
-/
import Derived.Deep.QuietTactic
import Derived.BigQuiet
import Derived.Test.YtmmchhlfbhbigaaDoorMg4
namespace Go.Proofs.YtmmchhlfbhbigaaDoor
set_option maxRecDepth 100000
open Go.RowKit Go.Joins Go.ChangeShapes Go.WideShapes
set_option linter.unusedVariables false

/-- a child: its bound, the number beside it, its block, its blocks, its parts, its entries -/
structure Kd where
  key : ByteArray
  id : Int
  g : Nat
  F : Bl
  ps : List Pv
  es : List Ent
def Kd.pv (c : Kd) : Pv := (c.key, c.id, some c.g)
abbrev Kd.k (c : Kd) : List Nat := sl c.key
/-- a node's blocks: its own, its row's, and what hangs below it -/
def Fo (g : Nat) (v : Value) (G : Bl) : Bl := fun k => k = g ∨ v.ownBlock = some k ∨ G k
abbrev Cn4 := World → Bl → List Nat → List Pv → List Ent → Prop
structure SubOf (C : Cn4) (B : Nat) (w : World) (F : Bl) (g : Nat) (lo : List Nat) (ps : List Pv) (es : List Ent) (v : Value) (G : Bl) : Prop where
  nd : NdAt B w g v ps
  con : C w G lo ps es
  apart : ∀ k, G k → k ≠ g ∧ v.ownBlock ≠ some k ∧ B ≤ k ∧ k < w.heap.size
  foot : F = Fo g v G
structure Kids (S : World → Bl → Nat → List Nat → List Pv → List Ent → Prop) (w : World) (G : Bl) (ks : List Kd) : Prop where
  sub : ∀ c ∈ ks, S w c.F c.g c.k c.ps c.es
  rise : ks.Pairwise fun a b => klt a.k b.k ∧ (∀ e ∈ a.es, klt e.1 b.k) ∧ ∀ k, a.F k → ¬ b.F k
  foot : G = fun k => ∃ c ∈ ks, c.F k
def Sz (ks : List Kd) : Prop := ∀ c ∈ ks, 4 ≤ c.ps.length ∧ c.ps.length ≤ 8
/-- what hangs below a list of parts: nothing at a leaf; d + 1: children of depth d -/
def Cont (B : Nat) : Nat → Cn4
  | 0 => fun w G lo ps es => G = (fun _ => False) ∧ (∀ p ∈ ps, p.2.2 = none) ∧ es = ents ps ∧ Srt es ∧ ∀ e ∈ es, ¬ klt e.1 lo
  | d + 1 => fun w G lo ps es => ∃ ks, Kids (fun w F g lo ps es => ∃ v G, SubOf (Cont B d) B w F g lo ps es v G) w G ks ∧ Sz ks ∧ ps = ks.map Kd.pv ∧ es = ks.flatMap Kd.es ∧ (ks.head?.map Kd.k) = some lo
/-- a tree of depth d below node g: all its keys are not ahead of lo -/
def Sub (B d : Nat) (w : World) (F : Bl) (g : Nat) (lo : List Nat) (ps : List Pv) (es : List Ent) : Prop := ∃ v G, SubOf (Cont B d) B w F g lo ps es v G
theorem cont_succ {B d : Nat} {w : World} {G : Bl} {lo : List Nat} {ps : List Pv} {es : List Ent} : Cont B (d + 1) w G lo ps es ↔ ∃ ks, Kids (Sub B d) w G ks ∧ Sz ks ∧ ps = ks.map Kd.pv ∧ es = ks.flatMap Kd.es ∧ (ks.head?.map Kd.k) = some lo := Iff.rfl

theorem SubOf.low {C : Cn4} {B : Nat} {w : World} {F : Bl} {g : Nat} {lo : List Nat} {ps : List Pv} {es : List Ent} {v : Value} {G : Bl} (h : SubOf C B w F g lo ps es v G) : ∀ k, F k → B ≤ k ∧ k < w.heap.size := by
  intro k hk
  rw [h.foot] at hk
  rcases hk with rfl | hk | hk
  · exact ⟨h.nd.bg, h.nd.lt⟩
  · exact h.nd.own.lt k hk
  · exact (h.apart k hk).2.2
theorem Sub.low {B d : Nat} {w : World} {F : Bl} {g : Nat} {lo : List Nat} {ps : List Pv} {es : List Ent} (h : Sub B d w F g lo ps es) : ∀ k, F k → B ≤ k ∧ k < w.heap.size := by
  obtain ⟨v, G, h⟩ := h
  exact h.low
theorem SubOf.step {C : Cn4} {B : Nat} {w w1 : World} {F F1 : Bl} {g : Nat} {lo : List Nat} {ps : List Pv} {es : List Ent} {v : Value} {G : Bl}
    (hC : C w G lo ps es → (∀ k, G k → ¬ F1 k) → C w1 G lo ps es) (h : SubOf C B w F g lo ps es v G) (hf : Frm F1 w w1) (hd : ∀ k, F k → ¬ F1 k) : SubOf C B w1 F g lo ps es v G := by
  have hd2 : ∀ k, Fo g v G k → ¬ F1 k := by rw [← h.foot]; exact hd
  exact ⟨h.nd.step hf (hd2 g (.inl rfl)) (fun k hk => hd2 k (.inr (.inl hk))), hC h.con (fun k hk => hd2 k (.inr (.inr hk))), fun k hk => by
    obtain ⟨a, b, c, d⟩ := h.apart k hk
    exact ⟨a, b, c, Nat.lt_of_lt_of_le d hf.size⟩, h.foot⟩
theorem Cont.step {B : Nat} : ∀ {d : Nat} {w w1 : World} {G F1 : Bl} {lo : List Nat} {ps : List Pv} {es : List Ent}, Cont B d w G lo ps es → Frm F1 w w1 → (∀ k, G k → ¬ F1 k) → Cont B d w1 G lo ps es
  | 0, _, _, _, _, _, _, _, h, _, _ => h
  | d + 1, w, w1, G, F1, lo, ps, es, h, hf, hd => by
    obtain ⟨ks, hk, hs, hp, he, hl⟩ := cont_succ.1 h
    refine cont_succ.2 ⟨ks, ⟨fun c hc => ?_, hk.rise, hk.foot⟩, hs, hp, he, hl⟩
    obtain ⟨v, G', h'⟩ := hk.sub c hc
    exact ⟨v, G', h'.step (fun hc' hg => Cont.step hc' hf hg) hf (fun k hk' => hd k (by rw [hk.foot]; exact ⟨c, hc, hk'⟩))⟩
theorem Sub.step {B d : Nat} {w w1 : World} {F F1 : Bl} {g : Nat} {lo : List Nat} {ps : List Pv} {es : List Ent} (h : Sub B d w F g lo ps es) (hf : Frm F1 w w1) (hd : ∀ k, F k → ¬ F1 k) : Sub B d w1 F g lo ps es := by
  obtain ⟨v, G, h⟩ := h
  exact ⟨v, G, h.step (fun hc hg => hc.step hf hg) hf hd⟩
theorem Sub.below {B d : Nat} {w w1 : World} {F : Bl} {g : Nat} {lo : List Nat} {ps : List Pv} {es : List Ent} (h : Sub B d w F g lo ps es) (hb : Below w.heap.size w w1) : Sub B d w1 F g lo ps es :=
  h.step (Frm.of_below (F := fun _ => False) hb) (fun _ _ h => h)

theorem head_le {ks : List Kd} {lo : List Nat} (hr : ks.Pairwise fun a b => klt a.k b.k ∧ (∀ e ∈ a.es, klt e.1 b.k) ∧ ∀ k, a.F k → ¬ b.F k) (hl : (ks.head?.map Kd.k) = some lo) {c : Kd} (hc : c ∈ ks) : ¬ klt c.k lo := by
  cases ks with
  | nil => cases hc
  | cons a r =>
    simp only [List.head?_cons, Option.map_some, Option.some.injEq] at hl
    subst hl
    rcases List.mem_cons.1 hc with rfl | hc
    · exact klt_irr _
    · exact klt_asym ((List.pairwise_cons.1 hr).1 c hc).1
theorem Cont.lo {B : Nat} : ∀ {d : Nat} {w : World} {G : Bl} {lo : List Nat} {ps : List Pv} {es : List Ent}, Cont B d w G lo ps es → ∀ e ∈ es, ¬ klt e.1 lo
  | 0, _, _, _, _, _, h => h.2.2.2.2
  | d + 1, w, G, lo, ps, es, h => by
    obtain ⟨ks, hk, hs, hp, rfl, hl⟩ := cont_succ.1 h
    intro e he
    obtain ⟨c, hc, hec⟩ := List.mem_flatMap.1 he
    obtain ⟨v, G', h'⟩ := hk.sub c hc
    exact nklt_trans (Cont.lo h'.con e hec) (head_le hk.rise hl hc)
theorem Cont.srt {B : Nat} : ∀ {d : Nat} {w : World} {G : Bl} {lo : List Nat} {ps : List Pv} {es : List Ent}, Cont B d w G lo ps es → Srt es
  | 0, _, _, _, _, _, h => h.2.2.2.1
  | d + 1, w, G, lo, ps, es, h => by
    obtain ⟨ks, hk, hs, hp, rfl, hl⟩ := cont_succ.1 h
    unfold Srt
    rw [List.pairwise_flatMap]
    refine ⟨fun c hc => ?_, ?_⟩
    · obtain ⟨v, G', h'⟩ := hk.sub c hc
      exact Cont.srt h'.con
    · refine (List.Pairwise.imp_of_mem ?_ hk.rise)
      intro a b ha hb hab x hx y hy
      obtain ⟨v, G', h'⟩ := hk.sub b hb
      exact klt_of_not' (hab.2.1 x hx) (Cont.lo h'.con y hy)
theorem ents_kids (ks : List Kd) : ents (ks.map Kd.pv) = ks.map fun c => (c.k, c.id) := by
  unfold ents
  rw [List.map_map]
  rfl
theorem Kids.srt {S : World → Bl → Nat → List Nat → List Pv → List Ent → Prop} {w : World} {G : Bl} {ks : List Kd} (h : Kids S w G ks) : Srt (ents (ks.map Kd.pv)) := by
  rw [ents_kids]
  unfold Srt
  rw [List.pairwise_map]
  exact h.rise.imp fun h => h.1
theorem Cont.keys {B : Nat} {d : Nat} {w : World} {G : Bl} {lo : List Nat} {ps : List Pv} {es : List Ent} (h : Cont B d w G lo ps es) : Srt (ents ps) := by
  cases d with
  | zero => rw [← h.2.2.1]; exact h.2.2.2.1
  | succ d =>
    obtain ⟨ks, hk, hs, rfl, he, hl⟩ := cont_succ.1 h
    exact hk.srt
theorem Cont.ne {B : Nat} : ∀ {d : Nat} {w : World} {G : Bl} {lo : List Nat} {ps : List Pv} {es : List Ent}, Cont B d w G lo ps es → ps ≠ [] → es ≠ []
  | 0, _, _, _, _, _, h, hn => by
    rw [h.2.2.1]
    unfold ents
    simpa using hn
  | d + 1, w, G, lo, ps, es, h, hn => by
    obtain ⟨ks, hk, hs, rfl, rfl, hl⟩ := cont_succ.1 h
    cases ks with
    | nil => exact absurd rfl hn
    | cons c r =>
      obtain ⟨v, G', h'⟩ := hk.sub c (List.mem_cons_self ..)
      have := Cont.ne h'.con (fun e => by have := (hs c (List.mem_cons_self ..)).1; rw [e] at this; simp at this)
      rw [List.flatMap_cons]
      exact fun e => this (List.append_eq_nil_iff.1 e).1

/-- children of a part of a list -/
theorem Kids.part {S : World → Bl → Nat → List Nat → List Pv → List Ent → Prop} {w : World} {G : Bl} {ks kt : List Kd} (h : Kids S w G ks) (hs : kt.Sublist ks) : Kids S w (fun k => ∃ c ∈ kt, c.F k) kt :=
  ⟨fun c hc => h.sub c (hs.subset hc), h.rise.sublist hs, rfl⟩
theorem Sz.part {ks kt : List Kd} (h : Sz ks) (hs : ∀ c ∈ kt, c ∈ ks) : Sz kt := fun c hc => h c (hs c hc)

theorem take_drop_at {α : Type} {l : List α} {i : Nat} {x : α} (h : l[i]? = some x) : l = l.take i ++ x :: l.drop (i + 1) := by
  obtain ⟨h1, h2⟩ := List.getElem?_eq_some_iff.1 h
  conv => lhs; rw [← List.take_append_drop i l, List.drop_eq_getElem_cons h1, h2]
theorem drop_cons {α : Type} {l : List α} {i : Nat} {x : α} (h : l[i]? = some x) : l.drop i = x :: l.drop (i + 1) := by
  obtain ⟨h1, h2⟩ := List.getElem?_eq_some_iff.1 h
  rw [List.drop_eq_getElem_cons h1, h2]
/-- the first key is not ahead of the bound -/
theorem Cont.head {B d : Nat} {w : World} {G : Bl} {lo : List Nat} {ps : List Pv} {es : List Ent} (h : Cont B d w G lo ps es) {p : Pv} (hp : ps[0]? = some p) : ¬ klt (sl p.1) lo := by
  cases d with
  | zero =>
    refine h.2.2.2.2 (sl p.1, p.2.1) ?_
    rw [h.2.2.1]
    exact List.mem_map.2 ⟨p, List.mem_of_getElem? hp, rfl⟩
  | succ d =>
    obtain ⟨ks, hk, hs, rfl, he, hl⟩ := cont_succ.1 h
    rw [List.getElem?_map] at hp
    obtain ⟨c, hc, rfl⟩ := Option.map_eq_some_iff.1 hp
    exact head_le hk.rise hl (List.mem_of_getElem? hc)
theorem Cont.lo_lt {B d : Nat} {w : World} {G : Bl} {lo : List Nat} {ps : List Pv} {es : List Ent} (h : Cont B d w G lo ps es) {i : Nat} {p : Pv} (h0 : 0 < i) (hi : ps[i]? = some p) : klt lo (sl p.1) := by
  have hl := (List.getElem?_eq_some_iff.1 hi).1
  have hq : ps[0]? = some (ps[0]'(by omega)) := List.getElem?_eq_getElem _
  have h1 := h.head hq
  have h2 := (List.pairwise_iff_getElem.1 h.keys) 0 i (by unfold ents; simp; omega) (by unfold ents; simp; omega) h0
  simp only [ents, List.getElem_map] at h2
  rw [(List.getElem?_eq_some_iff.1 hi).2] at h2
  exact klt_of_not h1 h2
/-- a list of parts falls into two -/
theorem Cont.split {B d : Nat} {w : World} {G : Bl} {lo : List Nat} {ps : List Pv} {es : List Ent} (h : Cont B d w G lo ps es) {i : Nat} {p : Pv} (h0 : 0 < i) (hi : ps[i]? = some p) :
    ∃ G1 G2 es1 es2, Cont B d w G1 lo (ps.take i) es1 ∧ Cont B d w G2 (sl p.1) (ps.drop i) es2 ∧ es = es1 ++ es2 ∧ (∀ k, G1 k → G k ∧ ¬ G2 k) ∧ (∀ k, G2 k → G k) ∧ (∀ e ∈ es1, klt e.1 (sl p.1)) := by
  cases d with
  | zero =>
    obtain ⟨rfl, h1, rfl, h3, h4⟩ := h
    have ea : ents ps = ents (ps.take i) ++ ents (ps.drop i) := by unfold ents; rw [← List.map_append, List.take_append_drop]
    have ed : ents (ps.drop i) = (sl p.1, p.2.1) :: ents (ps.drop (i + 1)) := by rw [drop_cons hi]; rfl
    unfold Srt at h3
    rw [ea, List.pairwise_append] at h3
    obtain ⟨s1, s2, s3⟩ := h3
    have hl : ∀ e ∈ ents (ps.take i), e ∈ ents ps := fun e he => by rw [ea]; exact List.mem_append_left _ he
    refine ⟨fun _ => False, fun _ => False, ents (ps.take i), ents (ps.drop i), ⟨rfl, fun p hp => h1 p (List.mem_of_mem_take hp), rfl, s1, fun e he => h4 e (hl e he)⟩, ⟨rfl, fun p hp => h1 p (List.mem_of_mem_drop hp), rfl, s2, ?_⟩, ea, fun _ h => h.elim, fun _ h => h, fun e he => s3 e he (sl p.1, p.2.1) (by rw [ed]; exact List.mem_cons_self ..)⟩
    intro e he
    rw [ed] at s2 he
    rcases List.mem_cons.1 he with rfl | he
    · exact klt_irr _
    · exact klt_asym ((List.pairwise_cons.1 s2).1 e he)
  | succ d =>
    obtain ⟨ks, hk, hs, rfl, rfl, hl⟩ := cont_succ.1 h
    rw [List.getElem?_map] at hi
    obtain ⟨c, hc, rfl⟩ := Option.map_eq_some_iff.1 hi
    have hr := hk.rise
    have ek : ks = ks.take i ++ ks.drop i := (List.take_append_drop i ks).symm
    rw [ek, List.pairwise_append] at hr
    have hcd : c ∈ ks.drop i := by rw [drop_cons hc]; exact List.mem_cons_self ..
    refine ⟨_, _, (ks.take i).flatMap Kd.es, (ks.drop i).flatMap Kd.es, cont_succ.2 ⟨ks.take i, hk.part (List.take_sublist ..), hs.part (fun _ => List.mem_of_mem_take), by rw [List.map_take], rfl, ?_⟩, cont_succ.2 ⟨ks.drop i, hk.part (List.drop_sublist ..), hs.part (fun _ => List.mem_of_mem_drop), by rw [List.map_drop], rfl, ?_⟩, ?_, ?_, ?_, ?_⟩
    · cases ks with
      | nil => simp at hc
      | cons a r => obtain ⟨j, rfl⟩ : ∃ j, i = j + 1 := ⟨i - 1, by omega⟩; exact hl
    · rw [drop_cons hc]; rfl
    · conv => lhs; rw [ek, List.flatMap_append]
    · rintro k ⟨a, ha, hak⟩
      refine ⟨by rw [hk.foot]; exact ⟨a, List.mem_of_mem_take ha, hak⟩, ?_⟩
      rintro ⟨b, hb, hbk⟩
      exact (hr.2.2 a ha b hb).2.2 k hak hbk
    · rintro k ⟨b, hb, hbk⟩
      rw [hk.foot]; exact ⟨b, List.mem_of_mem_drop hb, hbk⟩
    · intro e he
      obtain ⟨a, ha, hae⟩ := List.mem_flatMap.1 he
      exact (hr.2.2 a ha c hcd).2.1 e hae
/-- two lists of parts go together -/
theorem Cont.join {B d : Nat} {w : World} {G1 G2 : Bl} {lo lo2 : List Nat} {p1 p2 : List Pv} {e1 e2 : List Ent} (h1 : Cont B d w G1 lo p1 e1) (h2 : Cont B d w G2 lo2 p2 e2) (hn : p1 ≠ []) (hd : ∀ k, G1 k → ¬ G2 k) (hlt : ∀ e ∈ e1, klt e.1 lo2) (hlo : ¬ klt lo2 lo) :
    Cont B d w (fun k => G1 k ∨ G2 k) lo (p1 ++ p2) (e1 ++ e2) := by
  cases d with
  | zero =>
    have hs2 := h2.srt
    have hs1 := h1.srt
    have hl2 := h2.lo
    obtain ⟨rfl, a1, rfl, a3, a4⟩ := h1
    obtain ⟨rfl, b1, rfl, b3, b4⟩ := h2
    refine ⟨by funext k; simp, ?_, by unfold ents; rw [List.map_append], ?_, ?_⟩
    · intro p hp
      rcases List.mem_append.1 hp with hp | hp
      · exact a1 p hp
      · exact b1 p hp
    · exact List.pairwise_append.2 ⟨a3, b3, fun a ha b hb => klt_of_not' (hlt a ha) (hl2 b hb)⟩
    · intro e he
      rcases List.mem_append.1 he with he | he
      · exact a4 e he
      · exact nklt_trans (b4 e he) hlo
  | succ d =>
    obtain ⟨ks, hk, hs, rfl, rfl, hl⟩ := cont_succ.1 h1
    obtain ⟨kt, ht, hs2, rfl, rfl, hl2⟩ := cont_succ.1 h2
    refine cont_succ.2 ⟨ks ++ kt, ⟨?_, ?_, ?_⟩, ?_, by rw [List.map_append], by rw [List.flatMap_append], ?_⟩
    · intro c hc
      rcases List.mem_append.1 hc with hc | hc
      · exact hk.sub c hc
      · exact ht.sub c hc
    · refine List.pairwise_append.2 ⟨hk.rise, ht.rise, fun a ha b hb => ?_⟩
      have hba := head_le ht.rise hl2 hb
      obtain ⟨v, G', h'⟩ := hk.sub a ha
      have hne := Cont.ne h'.con (fun e => by have := (hs a ha).1; rw [e] at this; simp at this)
      have hall : ∀ e ∈ a.es, klt e.1 b.k := fun e he => klt_of_not' (hlt e (List.mem_flatMap.2 ⟨a, ha, he⟩)) hba
      refine ⟨?_, hall, fun k hak hbk => hd k (by rw [hk.foot]; exact ⟨a, ha, hak⟩) (by rw [ht.foot]; exact ⟨b, hb, hbk⟩)⟩
      cases hes : a.es with
      | nil => exact absurd hes hne
      | cons e r =>
        have he : e ∈ a.es := by rw [hes]; exact List.mem_cons_self ..
        exact klt_of_not (h'.con.lo e he) (hall e he)
    · rw [hk.foot, ht.foot]
      funext k
      simp only [List.mem_append, eq_iff_iff]
      constructor
      · rintro (⟨c, hc, h⟩ | ⟨c, hc, h⟩)
        · exact ⟨c, .inl hc, h⟩
        · exact ⟨c, .inr hc, h⟩
      · rintro ⟨c, hc | hc, h⟩
        · exact .inl ⟨c, hc, h⟩
        · exact .inr ⟨c, hc, h⟩
    · intro c hc
      rcases List.mem_append.1 hc with hc | hc
      · exact hs c hc
      · exact hs2 c hc
    · cases ks with
      | nil => simp at hn
      | cons a r => exact hl

/-- where a key belongs among the children -/
theorem child_split (ks : List Kd) (hr : Srt (ents (ks.map Kd.pv))) (lo k : List Nat) (hl : (ks.head?.map Kd.k) = some lo) (hk : ¬ klt k lo) :
    ∃ A c C, ks = A ++ c :: C ∧ chI (ents (ks.map Kd.pv)) k = (A.length : Nat) ∧ ¬ klt k c.k ∧ ∀ x ∈ C, klt k x.k := by
  have key : ∀ (l : List Kd) (s : Nat), Srt (ents (l.map Kd.pv)) → (∀ c, l.head? = some c → ¬ klt k c.k) → l ≠ [] →
      ∃ A c C, l = A ++ c :: C ∧ (if (ePlN (ents (l.map Kd.pv)) k s).2 then (((ePlN (ents (l.map Kd.pv)) k s).1 : Nat) : Int) else ((ePlN (ents (l.map Kd.pv)) k s).1 : Nat) - 1) = (s : Int) + (A.length : Nat) ∧ ¬ klt k c.k ∧ ∀ x ∈ C, klt k x.k := by
    intro l
    induction l with
    | nil => intro s _ _ h; exact absurd rfl h
    | cons c r ih =>
      intro s hs hh _
      have hck := hh c rfl
      rw [ents_kids, List.map_cons] at hs ⊢
      unfold Srt at hs
      rw [List.pairwise_cons] at hs
      unfold ePlN
      by_cases q : 0 ≤ ordB c.k k
      · rw [if_pos q]
        have hz : ordB c.k k = 0 := by
          unfold klt at hck
          have := ob_turn c.k k
          omega
        refine ⟨[], c, r, rfl, by simp [hz], hck, fun x hx => ?_⟩
        rw [← ob_zero _ _ hz]
        exact hs.1 (x.k, x.id) (List.mem_map.2 ⟨x, hx, rfl⟩)
      · rw [if_neg q]
        cases r with
        | nil => exact ⟨[], c, [], rfl, by simp [ePlN], hck, fun x hx => by cases hx⟩
        | cons b r =>
          by_cases z : klt k b.k
          · refine ⟨[], c, b :: r, rfl, ?_, hck, ?_⟩
            · rw [List.map_cons]
              unfold ePlN
              have z2 := klt_asym z
              unfold klt at z z2
              have hne : ordB b.k k ≠ 0 := by have := ob_turn b.k k; omega
              rw [if_pos (show 0 ≤ ordB (b.k, b.id).1 k by dsimp only; omega)]
              simp [hne]
            · intro x hx
              rcases List.mem_cons.1 hx with rfl | hx
              · exact z
              · exact klt_trans z ((List.pairwise_cons.1 hs.2).1 (x.k, x.id) (List.mem_map.2 ⟨x, hx, rfl⟩))
          · obtain ⟨A, c', C, e, h1, h2, h3⟩ := ih (s + 1) (by rw [ents_kids]; exact hs.2) (fun c hc => by simp at hc; subst hc; exact z) (by simp)
            rw [ents_kids] at h1
            exact ⟨c :: A, c', C, by rw [e]; rfl, by rw [h1]; simp; omega, h2, h3⟩
  have hne : ks ≠ [] := by intro e; rw [e] at hl; simp at hl
  have := key ks 0 hr (fun c hc => by rw [hc] at hl; simp at hl; rw [hl]; exact hk) hne
  obtain ⟨A, c, C, e, h1, h2, h3⟩ := this
  exact ⟨A, c, C, e, by unfold chI ePl; rw [h1]; omega, h2, h3⟩

/-- a key's place in the middle of a list -/
theorem ePlN_left (k : List Nat) : ∀ (L r : List Ent) (s : Nat), (∀ e ∈ L, klt e.1 k) → ePlN (L ++ r) k s = ePlN r k (s + L.length)
  | [], r, s, _ => rfl
  | x :: L, r, s, h => by
    rw [List.cons_append]
    have hx := h x (List.mem_cons_self ..)
    unfold klt at hx
    conv => lhs; unfold ePlN
    rw [if_neg (by omega), ePlN_left k L r (s + 1) (fun e he => h e (List.mem_cons_of_mem _ he)), List.length_cons]
    congr 1
    omega
theorem ePlN_right (k : List Nat) (R : List Ent) (hR : ∀ e ∈ R, klt k e.1) : ∀ (m : List Ent) (s : Nat), ePlN (m ++ R) k s = ePlN m k s
  | [], s => by
    cases R with
    | nil => rfl
    | cons x R =>
      have hx := hR x (List.mem_cons_self ..)
      have h2 := klt_asym hx
      unfold klt at hx h2
      have := ob_turn x.1 k
      show ePlN (x :: R) k s = (s, false)
      unfold ePlN
      rw [if_pos (by omega)]
      congr 1
      simp
      omega
  | x :: m, s => by
    rw [List.cons_append]
    unfold ePlN
    rw [ePlN_right k R hR m (s + 1)]
theorem ePlN_shift (k : List Nat) : ∀ (l : List Ent) (s t : Nat), ePlN l k (s + t) = ((ePlN l k s).1 + t, (ePlN l k s).2)
  | [], s, t => rfl
  | x :: l, s, t => by
    unfold ePlN
    split
    · rfl
    · rw [show s + t + 1 = s + 1 + t by omega, ePlN_shift k l (s + 1) t]
theorem ePl_mid {k : List Nat} {L m R : List Ent} (hL : ∀ e ∈ L, klt e.1 k) (hR : ∀ e ∈ R, klt k e.1) : ePl (L ++ m ++ R) k = (L.length + (ePl m k).1, (ePl m k).2) := by
  unfold ePl
  rw [List.append_assoc, ePlN_left k L _ 0 hL, ePlN_right k R hR, ePlN_shift k m 0 L.length, Nat.add_comm]
theorem ePut_mid {k : List Nat} {id : Int} {L m R : List Ent} (hL : ∀ e ∈ L, klt e.1 k) (hR : ∀ e ∈ R, klt k e.1) : ePut (L ++ m ++ R) k id = L ++ ePut m k id ++ R := by
  have hle := ePl_le m k
  unfold ePut
  rw [ePl_mid hL hR]
  dsimp only
  generalize (ePl m k).1 = i at *
  split
  · rfl
  · rw [List.append_assoc, List.append_assoc L, List.take_length_add_append, List.drop_length_add_append, List.take_append_of_le_length hle.1, List.drop_append_of_le_length hle.1]
    simp only [List.append_assoc]
theorem eDel_mid {k : List Nat} {L m R : List Ent} (hL : ∀ e ∈ L, klt e.1 k) (hR : ∀ e ∈ R, klt k e.1) : eDel (L ++ m ++ R) k = L ++ eDel m k ++ R := by
  have hle := ePl_le m k
  unfold eDel
  rw [ePl_mid hL hR]
  dsimp only
  generalize (ePl m k).1 = i at *
  split
  · rename_i q
    have := hle.2 q
    rw [List.append_assoc, Nat.add_assoc, List.take_length_add_append, List.drop_length_add_append, List.take_append_of_le_length hle.1, List.drop_append_of_le_length this]
    simp only [List.append_assoc]
  · rfl
/-- what ahead of and behind a child is, against a key that belongs in it -/
theorem around {S : World → Bl → Nat → List Nat → List Pv → List Ent → Prop} {w : World} {G : Bl} {A C : List Kd} {c : Kd} (h : Kids S w G (A ++ c :: C)) (hS : ∀ x ∈ C, ∀ e ∈ x.es, ¬ klt e.1 x.k) {k : List Nat} (hk : ¬ klt k c.k) (hC : ∀ x ∈ C, klt k x.k) :
    (∀ e ∈ A.flatMap Kd.es, klt e.1 k) ∧ (∀ e ∈ C.flatMap Kd.es, klt k e.1) := by
  have hr := List.pairwise_append.1 h.rise
  constructor
  · intro e he
    obtain ⟨a, ha, hae⟩ := List.mem_flatMap.1 he
    exact klt_of_not' ((hr.2.2 a ha c (List.mem_cons_self ..)).2.1 e hae) hk
  · intro e he
    obtain ⟨a, ha, hae⟩ := List.mem_flatMap.1 he
    exact klt_of_not' (hC a ha) (hS a ha e hae)

end Go.Proofs.YtmmchhlfbhbigaaDoor

namespace Go.Proofs.YtmmchhlfbhbigaaDoor
set_option maxRecDepth 100000
open Go.RowKit Go.Joins Go.ChangeShapes Go.WideShapes
set_option linter.unusedVariables false

/-- a node with children of depth d -/
structure Nod (B d : Nat) (w : World) (g : Nat) (v : Value) (G : Bl) (ks : List Kd) : Prop where
  nd : NdAt B w g v (ks.map Kd.pv)
  kids : Kids (Sub B d) w G ks
  apart : ∀ k, G k → k ≠ g ∧ v.ownBlock ≠ some k ∧ B ≤ k ∧ k < w.heap.size
theorem node_put {w : World} {g : Nat} {v v' : Value} (h : w.heap[g]? = some (.cells #[v] 124 (0, 0))) : (w.setCell ⟨g, 0, none⟩ v').heap[g]? = some (.cells #[v'] 124 (0, 0)) := by
  rw [setCell_eq_setRow w g 0 #[v] _ _ v' h, setRow_heap w g _ _ _ _ h]
  rfl
theorem Frm.ofGrown {F : Bl} {w w1 : World} {row : Option Nat} (h : w.grownBy w1 row) (hr : ∀ k, row = some k → F k) : Frm F w w1 := ⟨h.os, h.tape, h.output, h.size, fun k hk hf => h.block k hk (fun e => hf (hr k e.symm))⟩
theorem NdAt.set {B : Nat} {w : World} {g : Nat} {v v' : Value} {ps ps' : List Pv} (h : NdAt B w g v ps) (hv : OwP w B v' ps') : NdAt B (w.setCell ⟨g, 0, none⟩ v') g v' ps' := by
  refine ⟨node_put h.hd, ?_, h.bg⟩
  exact (Frm.set1 (F := fun k => k = g) w rfl 0 v').owP hv (fun k hk e => own_ne hv h.hd (by decide) (by rw [hk, e]))

theorem head_grown {w w1 : World} {g : Nat} {row : Option Nat} {v : Value} (hd : w.heap[g]? = some (.cells #[v] 124 (0, 0))) (hg : w.grownBy w1 row) (hne : row ≠ some g) :
    w1.cell? ⟨g, 0, none⟩ = some v ∧ w1.frozen? ⟨g, 0, none⟩ = false ∧ w1.heap[g]? = some (.cells #[v] 124 (0, 0)) := by
  have h : w1.heap[g]? = some (.cells #[v] 124 (0, 0)) := (hg.block g (Array.getElem?_eq_some_iff.1 hd).1 (fun e => hne e.symm)).trans hd
  exact ⟨by rw [cell_of_block h]; rfl, unfrozen_of_block h 0, h⟩

theorem OwP.form' {w : World} {B : Nat} {v : Value} {l : List Pv} (h : OwP w B v l) : ∃ a m cap, v = .slice a m cap := by
  rcases h.cases with ⟨rfl, rfl⟩ | ⟨g, cap, cur, rfl, _⟩
  · exact ⟨_, _, _, rfl⟩
  · exact ⟨_, _, _, rfl⟩

/-- what a halved child leaves: over whatever worlds -/
theorem halve_end {B d : Nat} {w w7 : World} {g : Nat} {v v' : Value} {G : Bl} {A C : List Kd} {c : Kd} {vc vc' v2 : Value} {Gc : Bl} {gr half : Nat} {p : Pv} (h : Nod B d w g v G (A ++ c :: C)) (hc : SubOf (Cont B d) B w c.F c.g c.k c.ps c.es vc Gc)
    (h0 : 0 < half) (hp : c.ps[half]? = some p)
    (hf : Frm (fun k => k = c.g ∨ vc.ownBlock = some k ∨ k = g ∨ v.ownBlock = some k) w w7)
    (n0 : NdAt B w7 g v' ((A ++ { c with ps := c.ps.take half } :: { key := p.1, id := 0, g := gr, F := c.F, ps := c.ps.drop half, es := [] } :: C).map Kd.pv)) (n1 : NdAt B w7 c.g vc' (c.ps.take half)) (n2 : NdAt w.heap.size w7 gr v2 (c.ps.drop half))
    (b1 : vc'.ownBlock = vc.ownBlock) (b0 : ∀ k, v'.ownBlock = some k → v.ownBlock = some k ∨ (w.heap.size ≤ k ∧ k ≠ gr ∧ v2.ownBlock ≠ some k)) :
    ∃ G' c1 c2, Nod B d w7 g v' G' (A ++ c1 :: c2 :: C) ∧ c1.key = c.key ∧ c1.ps.length = c.ps.length - (c.ps.length - half) ∧ c2.ps.length = c.ps.length - half ∧ c1.es ++ c2.es = c.es ∧ New w (Fo g v G) (Fo g v' G') := by
  obtain ⟨G1, G2, es1, es2, s1, s2, s3, s4, s5, s6⟩ := hc.con.split h0 hp
  have hlt := hc.con.lo_lt h0 hp
  have hB : B ≤ w.heap.size := Nat.le_trans h.nd.bg (Nat.le_of_lt h.nd.lt)
  have hcm : c ∈ A ++ c :: C := List.mem_append_right _ (List.mem_cons_self ..)
  have hcF : ∀ k, c.F k → G k := fun k hk => by rw [h.kids.foot]; exact ⟨c, hcm, hk⟩
  have hFo : ∀ k, Fo c.g vc Gc k → c.F k := fun k hk => by rw [hc.foot]; exact hk
  have hr := List.pairwise_append.1 h.kids.rise
  have hr2 := List.pairwise_cons.1 hr.2.1
  have hl := (List.getElem?_eq_some_iff.1 hp).1
  -- what stays
  have hGc : ∀ k, Gc k → ¬ (k = c.g ∨ vc.ownBlock = some k ∨ k = g ∨ v.ownBlock = some k) := by
    intro k hk hx
    have h1 := hc.apart k hk
    have h2 := h.apart k (hcF k (hFo k (.inr (.inr hk))))
    rcases hx with hx | hx | hx | hx
    · exact h1.1 hx
    · exact h1.2.1 hx
    · exact h2.1 hx
    · exact h2.2.1 hx
  have hoth : ∀ x, x ∈ A ∨ x ∈ C → ∀ k, x.F k → ¬ (k = c.g ∨ vc.ownBlock = some k ∨ k = g ∨ v.ownBlock = some k) := by
    intro x hx k hk hy
    have hxm : x ∈ A ++ c :: C := by
      rcases hx with hx | hx
      · exact List.mem_append_left _ hx
      · exact List.mem_append_right _ (List.mem_cons_of_mem _ hx)
    have h2 := h.apart k (by rw [h.kids.foot]; exact ⟨x, hxm, hk⟩)
    have hd : ¬ c.F k := by
      rcases hx with hx | hx
      · exact (hr.2.2 x hx c (List.mem_cons_self ..)).2.2 k hk
      · exact fun hck => (hr2.1 x hx).2.2 k hck hk
    rcases hy with hy | hy | hy | hy
    · exact hd (hFo k (.inl hy))
    · exact hd (hFo k (.inr (.inl hy)))
    · exact h2.1 hy
    · exact h2.2.1 hy
  have hw : ∀ x, x ∈ A ∨ x ∈ C → Sub B d w7 x.F x.g x.k x.ps x.es := by
    intro x hx
    refine (h.kids.sub x ?_).step hf (hoth x hx)
    rcases hx with hx | hx
    · exact List.mem_append_left _ hx
    · exact List.mem_append_right _ (List.mem_cons_of_mem _ hx)
  obtain ⟨c1, hc1⟩ : ∃ c1 : Kd, c1 = { c with ps := c.ps.take half, F := Fo c.g vc' G1, es := es1 } := ⟨_, rfl⟩
  obtain ⟨c2, hc2⟩ : ∃ c2 : Kd, c2 = { key := p.1, id := 0, g := gr, F := Fo gr v2 G2, ps := c.ps.drop half, es := es2 } := ⟨_, rfl⟩
  have f1 : ∀ k, c1.F k → c.F k := by
    intro k hk
    rw [hc1] at hk
    rcases hk with hk | hk | hk
    · exact hFo k (.inl hk)
    · exact hFo k (.inr (.inl (by rw [← b1]; exact hk)))
    · exact hFo k (.inr (.inr (s4 k hk).1))
  have f2 : ∀ k, c2.F k → w.heap.size ≤ k ∨ (Gc k ∧ c.F k) := by
    intro k hk
    rw [hc2] at hk
    rcases hk with rfl | hk | hk
    · exact .inl n2.bg
    · exact .inl (n2.own.lt k hk).1
    · exact .inr ⟨s5 k hk, hFo k (.inr (.inr (s5 k hk)))⟩
  have f2' : ∀ k, c2.F k → k < w7.heap.size := by
    intro k hk
    rw [hc2] at hk
    rcases hk with rfl | hk | hk
    · exact n2.lt
    · exact (n2.own.lt k hk).2
    · exact Nat.lt_of_lt_of_le (hc.apart k (s5 k hk)).2.2.2 hf.size
  have hclt : ∀ k, c.F k → k < w.heap.size := fun k hk => (h.apart k (hcF k hk)).2.2.2
  have u1 : Sub B d w7 c1.F c1.g c1.k c1.ps c1.es := by
    subst hc1
    refine ⟨vc', G1, n1, s1.step hf (fun k hk => hGc k (s4 k hk).1), fun k hk => ?_, rfl⟩
    have := hc.apart k (s4 k hk).1
    rw [b1]
    exact ⟨this.1, this.2.1, this.2.2.1, Nat.lt_of_lt_of_le this.2.2.2 hf.size⟩
  have u2 : Sub B d w7 c2.F c2.g c2.k c2.ps c2.es := by
    subst hc2
    refine ⟨v2, G2, ⟨n2.hd, n2.own.le hB, Nat.le_trans hB n2.bg⟩, s2.step hf (fun k hk => hGc k (s5 k hk)), fun k hk => ?_, rfl⟩
    have := hc.apart k (s5 k hk)
    refine ⟨fun e => ?_, fun e => ?_, this.2.2.1, Nat.lt_of_lt_of_le this.2.2.2 hf.size⟩
    · have e' : k = gr := e
      have := n2.bg; omega
    · have := (n2.own.lt k e).1; omega
  have hdis : ∀ k, c1.F k → ¬ c2.F k := by
    intro k h1 h2
    have hk := hclt k (f1 k h1)
    rw [hc1] at h1
    rw [hc2] at h2
    rcases h2 with h2 | h2 | h2
    · have := n2.bg; omega
    · have := (n2.own.lt k h2).1; omega
    · rcases h1 with h1 | h1 | h1
      · exact (hc.apart k (s5 k h2)).1 h1
      · exact (hc.apart k (s5 k h2)).2.1 (by rw [← b1]; exact h1)
      · exact (s4 k h1).2 h2
  have e1 : c1.k = c.k := by rw [hc1]
  have e2 : c2.k = sl p.1 := by rw [hc2]
  have hes : c1.es ++ c2.es = c.es := by rw [hc1, hc2]; exact s3.symm
  have hs1 : ∀ e ∈ c1.es, e ∈ c.es := fun e he => by rw [← hes]; exact List.mem_append_left _ he
  have hs2 : ∀ e ∈ c2.es, e ∈ c.es := fun e he => by rw [← hes]; exact List.mem_append_right _ he
  have hpC : ∀ x ∈ C, klt (sl p.1) x.k := by
    intro x hx
    have hne := s2.ne (by rw [drop_cons hp]; simp)
    cases he : es2 with
    | nil => exact absurd he hne
    | cons e r =>
      have hm : e ∈ es2 := by rw [he]; exact List.mem_cons_self ..
      exact klt_of_not (s2.lo e hm) ((hr2.1 x hx).2.1 e (by rw [s3]; exact List.mem_append_right _ hm))
  refine ⟨fun k => ∃ x ∈ A ++ c1 :: c2 :: C, x.F k, c1, c2, ⟨?_, ⟨?_, ?_, rfl⟩, ?_⟩, by rw [hc1], by rw [hc1]; simp only [List.length_take]; omega, by rw [hc2]; simp only [List.length_drop], hes, ?_⟩
  · rw [hc1, hc2]
    simpa [Kd.pv] using n0
  · intro x hx
    rcases List.mem_append.1 hx with hx | hx
    · exact hw x (.inl hx)
    · rcases List.mem_cons.1 hx with rfl | hx
      · exact u1
      · rcases List.mem_cons.1 hx with rfl | hx
        · exact u2
        · exact hw x (.inr hx)
  · refine List.pairwise_append.2 ⟨hr.1, List.pairwise_cons.2 ⟨fun x hx => ?_, List.pairwise_cons.2 ⟨fun x hx => ?_, hr2.2⟩⟩, fun a ha x hx => ?_⟩
    · rcases List.mem_cons.1 hx with rfl | hx
      · exact ⟨by rw [e1, e2]; exact hlt, fun e he => by rw [e2]; rw [hc1] at he; exact s6 e he, hdis⟩
      · exact ⟨by rw [e1]; exact (hr2.1 x hx).1, fun e he => (hr2.1 x hx).2.1 e (hs1 e he), fun k hk => (hr2.1 x hx).2.2 k (f1 k hk)⟩
    · refine ⟨by rw [e2]; exact hpC x hx, fun e he => (hr2.1 x hx).2.1 e (hs2 e he), fun k hk => ?_⟩
      rcases f2 k hk with h1 | h1
      · intro hxk
        have := (h.apart k (by rw [h.kids.foot]; exact ⟨x, List.mem_append_right _ (List.mem_cons_of_mem _ hx), hxk⟩)).2.2.2
        omega
      · exact (hr2.1 x hx).2.2 k h1.2
    · have hac := hr.2.2 a ha c (List.mem_cons_self ..)
      rcases List.mem_cons.1 hx with rfl | hx
      · exact ⟨by rw [e1]; exact hac.1, fun e he => by rw [e1]; exact hac.2.1 e he, fun k hk hx => hac.2.2 k hk (f1 k hx)⟩
      · rcases List.mem_cons.1 hx with rfl | hx
        · refine ⟨by rw [e2]; exact klt_trans hac.1 hlt, fun e he => by rw [e2]; exact klt_trans (hac.2.1 e he) hlt, fun k hk hx => ?_⟩
          rcases f2 k hx with h1 | h1
          · have := (h.apart k (by rw [h.kids.foot]; exact ⟨a, List.mem_append_left _ ha, hk⟩)).2.2.2
            omega
          · exact hac.2.2 k hk h1.2
        · exact hr.2.2 a ha x (List.mem_cons_of_mem _ hx)
  · rintro k ⟨x, hx, hxk⟩
    have old : ∀ k, G k → k ≠ g ∧ v'.ownBlock ≠ some k ∧ B ≤ k ∧ k < w7.heap.size := by
      intro k hk
      obtain ⟨q1, q2, q3, q4⟩ := h.apart k hk
      refine ⟨q1, fun e => ?_, q3, Nat.lt_of_lt_of_le q4 hf.size⟩
      rcases b0 k e with h1 | h1
      · exact q2 h1
      · omega
    rcases List.mem_append.1 hx with hx | hx
    · exact old k (by rw [h.kids.foot]; exact ⟨x, List.mem_append_left _ hx, hxk⟩)
    · rcases List.mem_cons.1 hx with rfl | hx
      · exact old k (hcF k (f1 k hxk))
      · rcases List.mem_cons.1 hx with rfl | hx
        · rcases f2 k hxk with h1 | h1
          · refine ⟨fun e => ?_, fun e => ?_, by omega, f2' k hxk⟩
            · have := h.nd.lt; omega
            · rcases b0 k e with h2 | h2
              · have := (h.nd.own.lt k h2).2; omega
              · rw [hc2] at hxk
                rcases hxk with hxk | hxk | hxk
                · exact h2.2.1 hxk
                · exact h2.2.2 hxk
                · have := (hc.apart k (s5 k hxk)).2.2.2; omega
          · exact old k (hcF k h1.2)
        · exact old k (by rw [h.kids.foot]; exact ⟨x, List.mem_append_right _ (List.mem_cons_of_mem _ hx), hxk⟩)
  · intro k hk
    rcases hk with hk | hk | ⟨x, hx, hxk⟩
    · exact .inl (.inl hk)
    · rcases b0 k hk with h1 | h1
      · exact .inl (.inr (.inl h1))
      · exact .inr h1.1
    · rcases List.mem_append.1 hx with hx | hx
      · exact .inl (.inr (.inr (by rw [h.kids.foot]; exact ⟨x, List.mem_append_left _ hx, hxk⟩)))
      · rcases List.mem_cons.1 hx with rfl | hx
        · exact .inl (.inr (.inr (hcF k (f1 k hxk))))
        · rcases List.mem_cons.1 hx with rfl | hx
          · rcases f2 k hxk with h1 | h1
            · exact .inr h1
            · exact .inl (.inr (.inr (hcF k h1.2)))
          · exact .inl (.inr (.inr (by rw [h.kids.foot]; exact ⟨x, List.mem_append_right _ (List.mem_cons_of_mem _ hx), hxk⟩)))

set_option maxHeartbeats 4000000 in
set_option maxRecDepth 100000 in
theorem halve_any (B d : Nat) (w : World) (g : Nat) (v : Value) (G : Bl) (A C : List Kd) (c : Kd) (h : Nod B d w g v G (A ++ c :: C)) (h2 : 2 ≤ c.ps.length) (hsz : c.ps.length ≤ 2147483648) (hn : (A ++ c :: C).length ≤ 2147483648) :
    Calls Tryd.prog 93 #[.pointer (some ⟨g, 0, none⟩), .int .i64 (A.length : Nat)] w fun e w' => ∃ v' G' c1 c2, e = .returned (.tuple #[]) ∧ Nod B d w' g v' G' (A ++ c1 :: c2 :: C) ∧ c1.key = c.key ∧
      c1.ps.length = c.ps.length - (c.ps.length - c.ps.length / 2) ∧ c2.ps.length = c.ps.length - c.ps.length / 2 ∧ c1.es ++ c2.es = c.es ∧ Frm (Fo g v G) w w' ∧ New w (Fo g v G) (Fo g v' G') := by
  generalize hP : (fun (e : Ending) (w' : World) => ∃ v' G' c1 c2, e = .returned (.tuple #[]) ∧ Nod B d w' g v' G' (A ++ c1 :: c2 :: C) ∧ c1.key = c.key ∧
      c1.ps.length = c.ps.length - (c.ps.length - c.ps.length / 2) ∧ c2.ps.length = c.ps.length - c.ps.length / 2 ∧ c1.es ++ c2.es = c.es ∧ Frm (Fo g v G) w w' ∧ New w (Fo g v G) (Fo g v' G')) = P
  obtain ⟨vc, Gc, hc⟩ := h.kids.sub c (List.mem_append_right _ (List.mem_cons_self ..))
  obtain ⟨half, hhalf⟩ : ∃ m, c.ps.length / 2 = m := ⟨_, rfl⟩
  have hl : half < c.ps.length := by omega
  have hp : c.ps[half]? = some (c.ps[half]'hl) := List.getElem?_eq_getElem _
  generalize c.ps[half]'hl = p at *
  have hpv : ((A ++ c :: C).map Kd.pv)[A.length]? = some c.pv := by rw [List.getElem?_map, List.getElem?_append_right (Nat.le_refl _), Nat.sub_self]; rfl
  obtain ⟨gb, cap, rfl, k1, k2, -, -, d2, -⟩ := h.nd.own.at hpv
  obtain ⟨gc, cac, rfl, m1, m2, -, -, -, -⟩ := hc.nd.own.at hp
  obtain ⟨c0, -⟩ := h.nd.cell
  obtain ⟨x0, -⟩ := hc.nd.cell
  simp only [Kd.pv, kp, Option.map_some] at d2
  have ln : ((A ++ c :: C).map Kd.pv).length = A.length + 1 + C.length := by simp; omega
  obtain ⟨n, en⟩ : ∃ n, c.ps.length = n := ⟨_, rfl⟩
  obtain ⟨a, ea⟩ : ∃ n, A.length = n := ⟨_, rfl⟩
  obtain ⟨b, eb⟩ : ∃ n, C.length = n := ⟨_, rfl⟩
  have hn' : a + 1 + b ≤ 2147483648 := by simp at hn; omega
  rw [ln] at c0 k1
  rw [en] at x0 m1 hl h2 hsz hhalf
  rw [ea] at c0 k1 d2 ⊢
  rw [eb] at c0 k1
  have H := Lib.hid h
  have hdl : (c.ps.drop half).length = n - half := by rw [List.length_drop, en]
  have HCL := Lib.hid (clone_any w gc (half * 3) (n - half) (cac - half) (c.ps.drop half) hdl (hc.nd.own.from half) (by omega))
  have HC := Lib.hid hc
  have HE := Lib.hid en
  have HDL := Lib.hid hdl
  have hcm : c ∈ A ++ c :: C := List.mem_append_right _ (List.mem_cons_self ..)
  have hcg : c.F c.g := by rw [hc.foot]; exact .inl rfl
  have hcgc : c.F gc := by rw [hc.foot]; exact .inr (.inl rfl)
  have hA := fun k hk => h.apart k (by rw [h.kids.foot]; exact ⟨c, hcm, hk⟩)
  have ne1 : ¬ c.g = g := (hA _ hcg).1
  have ne2 : ¬ gb = c.g := fun e => (hA _ hcg).2.1 (by rw [e]; rfl)
  have ne3 : ¬ gc = g := (hA _ hcgc).1
  have ne4 : ¬ gb = gc := fun e => (hA _ hcgc).2.1 (by rw [e]; rfl)
  have ne5 : ¬ gc = c.g := fun e => hc.nd.ne (by rw [e]; rfl)
  have ne6 : ¬ gb = g := fun e => h.nd.ne (by rw [e]; rfl)
  have lg : g < w.heap.size := h.nd.lt
  have lc : c.g < w.heap.size := hc.nd.lt
  have lgc : gc < w.heap.size := (hc.nd.own.lt gc rfl).2
  have lgb : gb < w.heap.size := (h.nd.own.lt gb rfl).2
  have hk0 : (a : Int) < (a : Int) + 1 + (b : Int) := by omega
  have hk1 : half ≤ n := by omega
  have hk2 : ¬ cac = half := by omega
  have hh2 : ((n : Int) / 2) = (half : Int) := by omega
  have hh3 : (n : Int).tdiv 2 = (half : Int) := by rw [Int.tdiv_eq_ediv_of_nonneg (by omega)]; exact hh2
  have HP := Lib.hid hP
  have HA := Lib.hid ea
  have HB9 := Lib.hid eb
  have HHH := Lib.hid hhalf
  have HPP := Lib.hid hp
  have HP0 := Lib.hid (show (c.ps.drop half)[0]? = some p by rw [List.getElem?_drop, Nat.add_zero]; exact hp)
  clear h hc hdl hcm hcg hcgc hA hP ea eb hpv ln en hn hhalf hp
  go_enter Tryd.func93, Tryd.ntmps93
  go_wp2_with (first | (go_at_call 120; refine HCL.out.mono ?_; rintro e w1 ⟨v2, rfl, o2, b1⟩; obtain ⟨g2, cp2, rfl, q1, -, z0, -⟩ := o2.at HP0.out; rw [HDL.out] at o2 q1 ⊢; have HO2 := Lib.hid o2; clear z0; have HB1 := Lib.hid b1; clear o2 b1))
  obtain ⟨gr, hgr⟩ : ∃ gr, w1.heap.size = gr := ⟨_, rfl⟩
  obtain ⟨w2, hW2⟩ : ∃ w2, w1.alloc (.cells #[.slice (some ⟨g2, 0, none⟩) (n - half) cp2] 124) = w2 := ⟨_, rfl⟩
  rw [hW2, hgr]
  have b2 : Below w.heap.size w w2 := by rw [← hW2]; exact HB1.out.alloc HB1.out.size _
  have n2 : NdAt w.heap.size w2 gr (.slice (some ⟨g2, 0, none⟩) (n - half) cp2) (c.ps.drop half) := by
    rw [← hW2, ← hgr]
    refine ⟨heap_alloc_new w1 _, ?_, HB1.out.size⟩
    exact HO2.out.alloc _
  have lg2 := (HO2.out.lt g2 rfl)
  rw [hgr] at lg2
  have lw1 : w.heap.size ≤ gr := by rw [← hgr]; exact HB1.out.size
  have lw2 : gr < w2.heap.size := n2.lt
  have N2 := Lib.hid n2
  have B2 := Lib.hid b2
  obtain ⟨x2, x2f⟩ := (HC.out.nd.below b2).cell
  rw [HE.out] at x2
  have HD := Lib.hid (del_any B w2.drew (.slice (some ⟨gc, 0, none⟩) c.ps.length cac) c.ps (HC.out.nd.below b2).own (by rw [HE.out]; omega) half n hl (by rw [HE.out]; exact Nat.le_refl _))
  rw [HE.out] at HD
  have NN := Lib.hid (HC.out.nd.below b2)
  clear hW2 hgr b2 n2 HB1 HO2
  have NG := Lib.hid (H.out.nd.below B2.out)
  go_upto_region 3 with fail
  go_cut [4] (fun q wx => q = .pointer (some ⟨c.g, 0, none⟩) ∧ ∃ w3 a3 m3 k3, wx = World.setCell w3 ⟨c.g, 0, none⟩ (.slice a3 m3 k3) ∧ OwP w3 B (.slice a3 m3 k3) (c.ps.take half ++ c.ps.drop n) ∧ (Value.slice a3 m3 k3).ownBlock = some gc ∧ w2.drew.grownBy w3 (some gc))
  case first =>
    go_region_with (go_at_call 95; refine HD.out.mono ?_; rintro e w3 ⟨v3, rfl, o3, q3, g3⟩; obtain ⟨a3, m3, k3, rfl⟩ := o3.form'; obtain ⟨x3, x3f, -⟩ := head_grown (w := w2.drew) NN.out.hd g3 (by simp [Value.ownBlock]; exact ne5); have HX := Lib.hid (show ∃ w3' a3' m3' k3', w3.setCell ⟨c.g, 0, none⟩ (.slice a3 m3 k3) = World.setCell w3' ⟨c.g, 0, none⟩ (.slice a3' m3' k3') ∧ OwP w3' B (.slice a3' m3' k3') (c.ps.take half ++ c.ps.drop n) ∧ (Value.slice a3' m3' k3').ownBlock = some gc ∧ w2.drew.grownBy w3' (some gc) from ⟨w3, a3, m3, k3, rfl, o3, q3, g3⟩); clear g3 o3 q3)
    all_goals
      go_wp2_with fail
      go_meet
      exact ⟨rfl, HX.out⟩
  case rest =>
    obtain ⟨rfl, w3, a3, m3, k3, hwc, o3, q3, g3⟩ := hcut
    -- the world behind the store
    have hn0 := HC.out.nd
    have f23 : Frm (fun k => k = gc) w2 w3 := ⟨g3.os, g3.tape, g3.output, g3.size, fun k hk hf => g3.block k hk (fun e => hf (by injection e))⟩
    have n3 : NdAt B w3 c.g (.slice (some ⟨gc, 0, none⟩) c.ps.length cac) c.ps ∨ True := .inr trivial
    have h3 : w3.heap[c.g]? = some (.cells #[.slice (some ⟨gc, 0, none⟩) c.ps.length cac] 124 (0, 0)) := (f23.heap (Nat.lt_of_lt_of_le lc B2.out.size) (fun e => ne5 e.symm)).trans (NN.out.hd)
    have o3' : OwP w3 B (.slice a3 m3 k3) (c.ps.take half) := by
      rw [List.drop_eq_nil_of_le (by rw [HE.out]; exact Nat.le_refl _), List.append_nil] at o3; exact o3
    have n4 : NdAt B wc c.g (.slice a3 m3 k3) (c.ps.take half) := by
      rw [hwc]
      refine ⟨node_put h3, ?_, hn0.bg⟩
      exact (Frm.set1 (F := fun k => k = c.g) w3 rfl 0 _).owP o3' (fun k hk e => own_ne o3' h3 (by decide) (by rw [hk, e]))
    have f24 : Frm (fun k => k = gc ∨ k = c.g) w2 wc := by
      rw [hwc]
      exact (f23.mono (fun k hk => .inl hk)).setCell (.inl (.inr rfl)) 0 _
    have ng4 := NG.out.step f24 (by rintro (e | e); exact ne3 e.symm; exact ne1 e.symm) (by
      intro k hk
      simp only [Value.ownBlock, Option.some.injEq] at hk
      subst hk
      rintro (e | e)
      · exact ne4 e
      · exact ne2 e)
    have nr4 := N2.out.step f24 (by rintro (e | e) <;> omega) (by
      intro k hk
      simp only [Value.ownBlock, Option.some.injEq] at hk
      subst hk
      rintro (e | e) <;> omega)
    have l4 : w2.heap.size ≤ wc.heap.size := f24.size
    obtain ⟨y0, y0f⟩ := ng4.cell
    obtain ⟨y1, y1f⟩ := nr4.cell
    obtain ⟨_, _, e5, -, -, y2, -, -, -⟩ := nr4.own.at (i := 0) (p := p) HP0.out
    injection e5 with e5 e6 e7
    injection e5 with e5
    injection e5 with e5
    subst e5
    clear e6 e7
    have ln : ((A ++ c :: C).map Kd.pv).length = a + 1 + b := by have := HA.out; have := HB9.out; simp; omega
    rw [ln] at y0
    have z1 : g < wc.heap.size := ng4.lt
    have z2 : gr < wc.heap.size := nr4.lt
    have z3 : g2 < wc.heap.size := (nr4.own.lt g2 rfl).2
    have hBw : B ≤ wc.heap.size := by have := ng4.bg; omega
    have HI := Lib.hid (fun wx (hb : Below wc.heap.size wc wx) gv (hv : BoxP wx gv (p.1, 0, some gr)) (hne : gb ≠ gv) => by
      have := ins_any B wx (Nat.le_trans hBw hb.size) (.slice (some ⟨gb, 0, none⟩) ((A ++ c :: C).map Kd.pv).length cap) ((A ++ c :: C).map Kd.pv) (ng4.below hb).own (by rw [ln]; omega) (a + 1) (by rw [ln]; omega) (p.1, 0, some gr) gv hv (by simp [Value.ownBlock]; exact hne)
      rw [ln, show ((a + 1 : Nat) : Int) = (a : Int) + 1 by omega] at this
      exact this)
    have lists : ((A ++ c :: C).map Kd.pv).take (a + 1) ++ (p.1, (0 : Int), some gr) :: ((A ++ c :: C).map Kd.pv).drop (a + 1) = (A ++ { c with ps := c.ps.take half } :: { key := p.1, id := 0, g := gr, F := c.F, ps := c.ps.drop half, es := [] } :: C).map Kd.pv := by
      have e1 : (A ++ c :: C).map Kd.pv = (A ++ [c]).map Kd.pv ++ C.map Kd.pv := by simp
      have e2 : a + 1 = ((A ++ [c]).map Kd.pv).length := by simp; exact HA.out.symm
      rw [e1, e2, List.take_left, List.drop_left]
      simp [Kd.pv]
    have hg4 := ng4.hd
    have HFIN := Lib.hid (show ∀ wx w6 v7, Below wc.heap.size wc wx → OwP w6 B v7 (((A ++ c :: C).map Kd.pv).take (a + 1) ++ (p.1, (0 : Int), some gr) :: ((A ++ c :: C).map Kd.pv).drop (a + 1)) → wx.grownBy w6 (some gb) → NewB wx (.slice (some ⟨gb, 0, none⟩) (a + 1 + b) cap) v7 → P (.returned (.tuple #[])) (w6.setCell ⟨g, 0, none⟩ v7) by
      intro wx w6 v7 hbx o7 g7 nb7
      have f6 : Frm (fun k => k = gb ∨ k = g) wc w6 := (Frm.of_below hbx).trans (F1 := fun k => k = gb ∨ k = g) (Frm.ofGrown g7 (fun k e => .inl (by injection e with e; exact e.symm))) (New.refl _ _)
      have f7 : Frm (fun k => k = gb ∨ k = g) wc (w6.setCell ⟨g, 0, none⟩ v7) := f6.setCell (.inl (.inr rfl)) 0 v7
      have hg6 : w6.heap[g]? = some (.cells #[.slice (some ⟨gb, 0, none⟩) ((A ++ c :: C).map Kd.pv).length cap] 124 (0, 0)) := by
        rw [g7.block g (Nat.lt_of_lt_of_le z1 hbx.size) (fun e => ne6 (by injection e with e; exact e.symm)), hbx.block g z1]
        exact hg4
      have n0 : NdAt B (w6.setCell ⟨g, 0, none⟩ v7) g v7 ((A ++ { c with ps := c.ps.take half } :: { key := p.1, id := 0, g := gr, F := c.F, ps := c.ps.drop half, es := [] } :: C).map Kd.pv) := by
        rw [← lists]
        refine ⟨node_put hg6, ?_, ng4.bg⟩
        exact (Frm.set1 (F := fun k => k = g) w6 rfl 0 _).owP o7 (fun k hk e => own_ne o7 hg6 (by decide) (by rw [hk, e]))
      have n1 := n4.step f7 (by rintro (e | e); exact ne2 e.symm; exact ne1 e) (by
        intro k hk
        rw [q3] at hk
        injection hk with hk
        subst hk
        rintro (e | e)
        · exact ne4 e.symm
        · exact ne3 e)
      have n2 := nr4.step f7 (by rintro (e | e) <;> omega) (by
        intro k hk
        simp only [Value.ownBlock, Option.some.injEq] at hk
        subst hk
        rintro (e | e) <;> omega)
      have hf : Frm (fun k => k = c.g ∨ (Value.slice (some ⟨gc, 0, none⟩) c.ps.length cac).ownBlock = some k ∨ k = g ∨ (Value.slice (some ⟨gb, 0, none⟩) ((A ++ c :: C).map Kd.pv).length cap).ownBlock = some k) w (w6.setCell ⟨g, 0, none⟩ v7) := by
        refine ((Frm.of_below B2.out).trans (F1 := fun k => k = gc ∨ k = c.g) f24 ?_).trans f7 ?_
        · rintro k (rfl | rfl)
          · exact .inl (.inr (.inl rfl))
          · exact .inl (.inl rfl)
        · rintro k (rfl | rfl)
          · exact .inl (.inr (.inr (.inr rfl)))
          · exact .inl (.inr (.inr (.inl rfl)))
      obtain ⟨G', c1, c2, r1, r2, r3, r4, r5, r6⟩ := halve_end (half := half) (p := p) (vc' := .slice a3 m3 k3) H.out HC.out (by have := HHH.out; omega) HPP.out hf n0 n1 n2 q3 (by
        intro k hk
        rcases nb7 k hk with h | h
        · exact .inl h
        · have := hbx.size
          refine .inr ⟨by omega, by omega, fun e => ?_⟩
          simp only [Value.ownBlock, Option.some.injEq] at e
          omega)
      rw [← HP.out]
      refine ⟨v7, G', c1, c2, rfl, r1, r2, by have := HHH.out; have := HE.out; rw [HE.out] at r3 ⊢; omega, by have := HHH.out; have := HE.out; rw [HE.out] at r4 ⊢; omega, r5, hf.mono ?_, r6⟩
      have hin : ∀ k, c.F k → G k := fun k hk => by rw [H.out.kids.foot]; exact ⟨c, List.mem_append_right _ (List.mem_cons_self ..), hk⟩
      have hcf : ∀ k, Fo c.g (.slice (some ⟨gc, 0, none⟩) c.ps.length cac) Gc k → c.F k := fun k hk => by rw [HC.out.foot]; exact hk
      rintro k (rfl | hk | rfl | hk)
      · exact .inr (.inr (hin _ (hcf _ (.inl rfl))))
      · exact .inr (.inr (hin _ (hcf _ (.inr (.inl hk)))))
      · exact .inl rfl
      · exact .inr (.inl hk))
    have hwr : IntKind.i64.wrap ((a : Int) + 1) = (a : Int) + 1 := IntWalk.i64_in _ (by omega)
    have z4 : gb < wc.heap.size := (ng4.own.lt gb rfl).2
    have HG4 := Lib.hid ng4.hd
    have z5 : 0 < n - half := by omega
    clear hn0 f23 n3 h3 o3 o3' g3 ln lists f24 ng4 nr4 n4 hwc q3 hg4
    go_wp2_with fail
    go_region_with (go_at_call 119; refine (HI.out _ (((Below.refl _ _).drew).alloc (Nat.le_refl _) _) wc.heap.size (heap_alloc_new wc.drew _) (by omega)).mono ?_; rintro e w6 ⟨v7, rfl, o7, g7, nb7⟩; obtain ⟨a7, m7, k7, rfl⟩ := o7.form'; obtain ⟨x6, x6f, -⟩ := head_grown (w := wc.drew.alloc _) (g := g) (by rw [heap_alloc_old wc.drew _ z1]; exact HG4.out) g7 (by simp [Value.ownBlock]; exact ne6); have HX := Lib.hid (HFIN.out _ _ _ (((Below.refl _ _).drew).alloc (Nat.le_refl _) _) o7 g7 nb7); clear o7 g7 nb7)
    all_goals
      go_wp2_with fail
      exact bodyPost_ret (v := .tuple #[]) (by simp [results, Tryd.results93, go_sem]) rfl HX.out

end Go.Proofs.YtmmchhlfbhbigaaDoor

namespace Go.Proofs.YtmmchhlfbhbigaaDoor
set_option maxRecDepth 100000
open Go.RowKit Go.Joins Go.ChangeShapes Go.WideShapes
set_option linter.unusedVariables false
set_option linter.unusedSimpArgs false

theorem join_end {B d : Nat} {w w7 : World} {g : Nat} {v v' : Value} {G : Bl} {A C : List Kd} {c1 c2 : Kd} {v1 v1' v2 : Value} {G1 G2 : Bl} (h : Nod B d w g v G (A ++ c1 :: c2 :: C)) (hc : SubOf (Cont B d) B w c1.F c1.g c1.k c1.ps c1.es v1 G1) (hc2 : SubOf (Cont B d) B w c2.F c2.g c2.k c2.ps c2.es v2 G2)
    (hne : c1.ps ≠ [])
    (hf : Frm (fun k => k = c1.g ∨ v1.ownBlock = some k ∨ k = g ∨ v.ownBlock = some k) w w7)
    (n0 : NdAt B w7 g v' ((A ++ c1 :: C).map Kd.pv)) (n1 : NdAt B w7 c1.g v1' (c1.ps ++ c2.ps))
    (b1 : ∀ k, v1'.ownBlock = some k → v1.ownBlock = some k ∨ w.heap.size ≤ k) (b0 : v'.ownBlock = v.ownBlock) :
    ∃ G' c, Nod B d w7 g v' G' (A ++ c :: C) ∧ c.key = c1.key ∧ c.ps = c1.ps ++ c2.ps ∧ c.es = c1.es ++ c2.es ∧ New w (Fo g v G) (Fo g v' G') := by
  have hr := List.pairwise_append.1 h.kids.rise
  have hr2 := List.pairwise_cons.1 hr.2.1
  have hr3 := List.pairwise_cons.1 hr2.2
  have h12 := hr2.1 c2 (List.mem_cons_self ..)
  have m1 : c1 ∈ A ++ c1 :: c2 :: C := List.mem_append_right _ (List.mem_cons_self ..)
  have m2 : c2 ∈ A ++ c1 :: c2 :: C := List.mem_append_right _ (List.mem_cons_of_mem _ (List.mem_cons_self ..))
  have mo : ∀ x, x ∈ A ∨ x ∈ C → x ∈ A ++ c1 :: c2 :: C := by
    rintro x (hx | hx)
    · exact List.mem_append_left _ hx
    · exact List.mem_append_right _ (List.mem_cons_of_mem _ (List.mem_cons_of_mem _ hx))
  have inG : ∀ x ∈ A ++ c1 :: c2 :: C, ∀ k, x.F k → G k := fun x hx k hk => by rw [h.kids.foot]; exact ⟨x, hx, hk⟩
  have hF1 : ∀ k, Fo c1.g v1 G1 k → c1.F k := fun k hk => by rw [hc.foot]; exact hk
  have hF2 : ∀ k, Fo c2.g v2 G2 k → c2.F k := fun k hk => by rw [hc2.foot]; exact hk
  have hB : B ≤ w.heap.size := Nat.le_trans h.nd.bg (Nat.le_of_lt h.nd.lt)
  have hGd : ∀ k, G1 k → ¬ G2 k := fun k h1 h2 => h12.2.2 k (hF1 k (.inr (.inr h1))) (hF2 k (.inr (.inr h2)))
  have hcj := hc.con.join hc2.con hne hGd h12.2.1 (klt_asym h12.1)
  have st : ∀ k, G1 k ∨ G2 k → ¬ (k = c1.g ∨ v1.ownBlock = some k ∨ k = g ∨ v.ownBlock = some k) := by
    rintro k (hk | hk) hx
    · have q1 := hc.apart k hk
      have q2 := h.apart k (inG c1 m1 k (hF1 k (.inr (.inr hk))))
      rcases hx with hx | hx | hx | hx
      · exact q1.1 hx
      · exact q1.2.1 hx
      · exact q2.1 hx
      · exact q2.2.1 hx
    · have q2 := h.apart k (inG c2 m2 k (hF2 k (.inr (.inr hk))))
      have q3 : ¬ c1.F k := fun e => h12.2.2 k e (hF2 k (.inr (.inr hk)))
      rcases hx with hx | hx | hx | hx
      · exact q3 (hF1 k (.inl hx))
      · exact q3 (hF1 k (.inr (.inl hx)))
      · exact q2.1 hx
      · exact q2.2.1 hx
  have hoth : ∀ x, x ∈ A ∨ x ∈ C → ∀ k, x.F k → ¬ (k = c1.g ∨ v1.ownBlock = some k ∨ k = g ∨ v.ownBlock = some k) := by
    intro x hx k hk hy
    have q2 := h.apart k (inG x (mo x hx) k hk)
    have hd : ¬ c1.F k := by
      rcases hx with hx | hx
      · exact (hr.2.2 x hx c1 (List.mem_cons_self ..)).2.2 k hk
      · exact fun hck => (hr2.1 x (List.mem_cons_of_mem _ hx)).2.2 k hck hk
    rcases hy with hy | hy | hy | hy
    · exact hd (hF1 k (.inl hy))
    · exact hd (hF1 k (.inr (.inl hy)))
    · exact q2.1 hy
    · exact q2.2.1 hy
  have hw : ∀ x, x ∈ A ∨ x ∈ C → Sub B d w7 x.F x.g x.k x.ps x.es := fun x hx => (h.kids.sub x (mo x hx)).step hf (hoth x hx)
  obtain ⟨c, hcc⟩ : ∃ c : Kd, c = { c1 with ps := c1.ps ++ c2.ps, F := Fo c1.g v1' (fun k => G1 k ∨ G2 k), es := c1.es ++ c2.es } := ⟨_, rfl⟩
  have ek : c.k = c1.k := by rw [hcc]
  have ees : c.es = c1.es ++ c2.es := by rw [hcc]
  have fc : ∀ k, c.F k → c1.F k ∨ c2.F k ∨ w.heap.size ≤ k := by
    intro k hk
    rw [hcc] at hk
    rcases hk with hk | hk | hk | hk
    · exact .inl (hF1 k (.inl hk))
    · rcases b1 k hk with q | q
      · exact .inl (hF1 k (.inr (.inl q)))
      · exact .inr (.inr q)
    · exact .inl (hF1 k (.inr (.inr hk)))
    · exact .inr (.inl (hF2 k (.inr (.inr hk))))
  have fl : ∀ k, c.F k → k < w7.heap.size := by
    intro k hk
    rw [hcc] at hk
    rcases hk with rfl | hk | hk | hk
    · exact n1.lt
    · exact (n1.own.lt k hk).2
    · exact Nat.lt_of_lt_of_le (hc.apart k hk).2.2.2 hf.size
    · exact Nat.lt_of_lt_of_le (hc2.apart k hk).2.2.2 hf.size
  have uc : Sub B d w7 c.F c.g c.k c.ps c.es := by
    subst hcc
    refine ⟨v1', _, n1, hcj.step hf st, ?_, rfl⟩
    intro k hk
    have hlt : B ≤ k ∧ k < w.heap.size := by
      rcases hk with hk | hk
      · exact (hc.apart k hk).2.2
      · exact (hc2.apart k hk).2.2
    refine ⟨fun e => st k hk (.inl e), fun e => ?_, hlt.1, Nat.lt_of_lt_of_le hlt.2 hf.size⟩
    rcases b1 k e with q | q
    · exact st k hk (.inr (.inl q))
    · omega
  have lto : ∀ x, x ∈ A ∨ x ∈ C → ∀ k, x.F k → k < w.heap.size := fun x hx k hk => (h.apart k (inG x (mo x hx) k hk)).2.2.2
  have old : ∀ k, G k → k ≠ g ∧ v'.ownBlock ≠ some k ∧ B ≤ k ∧ k < w7.heap.size := by
    intro k hk
    obtain ⟨q1, q2, q3, q4⟩ := h.apart k hk
    exact ⟨q1, by rw [b0]; exact q2, q3, Nat.lt_of_lt_of_le q4 hf.size⟩
  refine ⟨fun k => ∃ x ∈ A ++ c :: C, x.F k, c, ⟨?_, ⟨?_, ?_, rfl⟩, ?_⟩, by rw [hcc], by rw [hcc], ees, ?_⟩
  · rw [hcc]
    simpa [Kd.pv] using n0
  · intro x hx
    rcases List.mem_append.1 hx with hx | hx
    · exact hw x (.inl hx)
    · rcases List.mem_cons.1 hx with rfl | hx
      · exact uc
      · exact hw x (.inr hx)
  · refine List.pairwise_append.2 ⟨hr.1, List.pairwise_cons.2 ⟨fun x hx => ?_, hr3.2⟩, fun a ha x hx => ?_⟩
    · refine ⟨by rw [ek]; exact (hr2.1 x (List.mem_cons_of_mem _ hx)).1, fun e he => ?_, fun k hk hxk => ?_⟩
      · rw [ees] at he
        rcases List.mem_append.1 he with he | he
        · exact (hr2.1 x (List.mem_cons_of_mem _ hx)).2.1 e he
        · exact (hr3.1 x hx).2.1 e he
      · rcases fc k hk with q | q | q
        · exact (hr2.1 x (List.mem_cons_of_mem _ hx)).2.2 k q hxk
        · exact (hr3.1 x hx).2.2 k q hxk
        · have := lto x (.inr hx) k hxk; omega
    · rcases List.mem_cons.1 hx with rfl | hx
      · have q1 := hr.2.2 a ha c1 (List.mem_cons_self ..)
        have q2 := hr.2.2 a ha c2 (List.mem_cons_of_mem _ (List.mem_cons_self ..))
        refine ⟨by rw [ek]; exact q1.1, fun e he => by rw [ek]; exact q1.2.1 e he, fun k hk hxk => ?_⟩
        rcases fc k hxk with q | q | q
        · exact q1.2.2 k hk q
        · exact q2.2.2 k hk q
        · have := lto a (.inl ha) k hk; omega
      · exact hr.2.2 a ha x (List.mem_cons_of_mem _ (List.mem_cons_of_mem _ hx))
  · rintro k ⟨x, hx, hxk⟩
    rcases List.mem_append.1 hx with hx | hx
    · exact old k (inG x (mo x (.inl hx)) k hxk)
    · rcases List.mem_cons.1 hx with rfl | hx
      · rcases fc k hxk with q | q | q
        · exact old k (inG c1 m1 k q)
        · exact old k (inG c2 m2 k q)
        · refine ⟨fun e => ?_, fun e => ?_, by omega, fl k hxk⟩
          · have := h.nd.lt; omega
          · rw [b0] at e
            have := (h.nd.own.lt k e).2; omega
      · exact old k (inG x (mo x (.inr hx)) k hxk)
  · intro k hk
    rcases hk with hk | hk | ⟨x, hx, hxk⟩
    · exact .inl (.inl hk)
    · exact .inl (.inr (.inl (by rw [← b0]; exact hk)))
    · rcases List.mem_append.1 hx with hx | hx
      · exact .inl (.inr (.inr (inG x (mo x (.inl hx)) k hxk)))
      · rcases List.mem_cons.1 hx with rfl | hx
        · rcases fc k hxk with q | q | q
          · exact .inl (.inr (.inr (inG c1 m1 k q)))
          · exact .inl (.inr (.inr (inG c2 m2 k q)))
          · exact .inr q
        · exact .inl (.inr (.inr (inG x (mo x (.inr hx)) k hxk)))

set_option maxHeartbeats 4000000 in
set_option maxRecDepth 100000 in
theorem join_any (B d : Nat) (w : World) (g : Nat) (v : Value) (G : Bl) (A C : List Kd) (c1 c2 : Kd) (h : Nod B d w g v G (A ++ c1 :: c2 :: C)) (hne : c1.ps ≠ []) (hne2 : c2.ps ≠ []) (hsz : c1.ps.length + c2.ps.length ≤ 2147483648) (hn : (A ++ c1 :: c2 :: C).length ≤ 2147483648) :
    Calls Tryd.prog 124 #[.pointer (some ⟨g, 0, none⟩), .int .i64 (A.length : Nat)] w fun e w' => ∃ v' G' c, e = .returned (.tuple #[]) ∧ Nod B d w' g v' G' (A ++ c :: C) ∧ c.key = c1.key ∧ c.ps = c1.ps ++ c2.ps ∧ c.es = c1.es ++ c2.es ∧
      Frm (Fo g v G) w w' ∧ New w (Fo g v G) (Fo g v' G') := by
  generalize hP : (fun (e : Ending) (w' : World) => ∃ v' G' c, e = .returned (.tuple #[]) ∧ Nod B d w' g v' G' (A ++ c :: C) ∧ c.key = c1.key ∧ c.ps = c1.ps ++ c2.ps ∧ c.es = c1.es ++ c2.es ∧
      Frm (Fo g v G) w w' ∧ New w (Fo g v G) (Fo g v' G')) = P
  have m1 : c1 ∈ A ++ c1 :: c2 :: C := List.mem_append_right _ (List.mem_cons_self ..)
  have m2 : c2 ∈ A ++ c1 :: c2 :: C := List.mem_append_right _ (List.mem_cons_of_mem _ (List.mem_cons_self ..))
  obtain ⟨v1, G1, hc1⟩ := h.kids.sub c1 m1
  obtain ⟨v2, G2, hc2⟩ := h.kids.sub c2 m2
  have hpv : ((A ++ c1 :: c2 :: C).map Kd.pv)[A.length]? = some c1.pv := by rw [List.getElem?_map, List.getElem?_append_right (Nat.le_refl _), Nat.sub_self]; rfl
  have hpv2 : ((A ++ c1 :: c2 :: C).map Kd.pv)[A.length + 1]? = some c2.pv := by rw [List.getElem?_map, List.getElem?_append_right (by omega), show A.length + 1 - A.length = 1 by omega]; rfl
  obtain ⟨gb, cap, rfl, k1, k2, -, -, d1, -⟩ := h.nd.own.at hpv
  obtain ⟨_, _, e5, -, -, -, -, d2, -⟩ := h.nd.own.at hpv2
  injection e5 with e5 e6 e7
  injection e5 with e5
  injection e5 with e5
  subst e5
  clear e6 e7
  have hz1 : 0 < c1.ps.length := by cases hq : c1.ps with | nil => exact absurd hq hne | cons => simp
  have hz2 : 0 < c2.ps.length := by cases hq : c2.ps with | nil => exact absurd hq hne2 | cons => simp
  obtain ⟨ga, ca, rfl, m3, m4, -⟩ := hc1.nd.own.at (List.getElem?_eq_getElem hz1)
  obtain ⟨gd, cd, rfl, m5, m6, -⟩ := hc2.nd.own.at (List.getElem?_eq_getElem hz2)
  obtain ⟨c0, -⟩ := h.nd.cell
  obtain ⟨x0, -⟩ := hc1.nd.cell
  obtain ⟨y0, -⟩ := hc2.nd.cell
  simp only [Kd.pv, kp, Option.map_some] at d1 d2
  have ln : ((A ++ c1 :: c2 :: C).map Kd.pv).length = A.length + 2 + C.length := by simp; omega
  obtain ⟨n, en⟩ : ∃ n, c1.ps.length = n := ⟨_, rfl⟩
  obtain ⟨m, em⟩ : ∃ n, c2.ps.length = n := ⟨_, rfl⟩
  obtain ⟨a, ea⟩ : ∃ n, A.length = n := ⟨_, rfl⟩
  obtain ⟨b, eb⟩ : ∃ n, C.length = n := ⟨_, rfl⟩
  have hn' : a + 2 + b ≤ 2147483648 := by simp at hn; omega
  rw [ln] at c0 k1
  rw [en] at x0 m3 hsz hz1
  rw [em] at y0 m5 hsz hz2
  rw [ea] at c0 k1 d1 d2 ⊢
  rw [eb] at c0 k1
  have fc1 : ∀ k, Fo c1.g (.slice (some ⟨ga, 0, none⟩) c1.ps.length ca) G1 k → c1.F k := fun k hk => by rw [hc1.foot]; exact hk
  have fc2 : ∀ k, Fo c2.g (.slice (some ⟨gd, 0, none⟩) c2.ps.length cd) G2 k → c2.F k := fun k hk => by rw [hc2.foot]; exact hk
  have hA := fun k hk => h.apart k (by rw [h.kids.foot]; exact ⟨c1, m1, hk⟩)
  have hA2 := fun k hk => h.apart k (by rw [h.kids.foot]; exact ⟨c2, m2, hk⟩)
  have ne1 : ¬ c1.g = g := (hA _ (fc1 _ (.inl rfl))).1
  have ne2 : ¬ gb = c1.g := fun e => (hA _ (fc1 _ (.inl rfl))).2.1 (by rw [e]; rfl)
  have ne3 : ¬ ga = g := (hA _ (fc1 _ (.inr (.inl rfl)))).1
  have ne4 : ¬ gb = ga := fun e => (hA _ (fc1 _ (.inr (.inl rfl)))).2.1 (by rw [e]; rfl)
  have ne5 : ¬ ga = c1.g := fun e => hc1.nd.ne (by rw [e]; rfl)
  have ne6 : ¬ gb = g := fun e => h.nd.ne (by rw [e]; rfl)
  have lg : g < w.heap.size := h.nd.lt
  have lc : c1.g < w.heap.size := hc1.nd.lt
  have lga : ga < w.heap.size := (hc1.nd.own.lt ga rfl).2
  have lgb : gb < w.heap.size := (h.nd.own.lt gb rfl).2
  have hBw : B ≤ w.heap.size := by have := h.nd.bg; omega
  have hk0 : (a : Int) < (a : Int) + 2 + (b : Int) := by omega
  have hk1 : (a : Int) + 1 < (a : Int) + 2 + (b : Int) := by omega
  have hw1 : IntKind.i64.wrap ((a : Int) + 1) = (a : Int) + 1 := IntWalk.i64_in _ (by omega)
  have hw2 : IntKind.i64.wrap ((a : Int) + 2) = (a : Int) + 2 := IntWalk.i64_in _ (by omega)
  have hw3 : (0 : Int) ≤ (a : Int) + 1 := by omega
  have hw4 : ((a : Int) + 1).toNat = a + 1 := by omega
  have H := Lib.hid h
  have H1 := Lib.hid hc1
  have H2 := Lib.hid hc2
  have HN := Lib.hid en
  have HM := Lib.hid em
  have HNE := Lib.hid hne
  have HL := Lib.hid (show ((A ++ c1 :: c2 :: C).map Kd.pv).length = a + 2 + b by rw [ln, ea, eb])
  have HP := Lib.hid hP
  have HA := Lib.hid ea
  have HB9 := Lib.hid eb
  have HF1 := Lib.hid fc1
  have HF2 := Lib.hid fc2
  clear h hc1 hc2 en em hne hne2 ln hP ea eb fc1 fc2 hA hA2 hpv hpv2 m1 m2 hn
  go_enter Tryd.func124, Tryd.ntmps124
  go_wp2_with fail
  go_quiet (fail)
  obtain ⟨wq, hwq⟩ : ∃ wq, w.drewN nq = wq := ⟨_, rfl⟩
  rw [hwq]
  have bq : Below w.heap.size w wq := by rw [← hwq]; exact ⟨rfl, rfl, rfl, Nat.le_refl _, fun _ _ => rfl⟩
  have BQ := Lib.hid bq
  have lq := bq.size
  have N1 := Lib.hid (H1.out.nd.below bq)
  have NG := Lib.hid (H.out.nd.below bq)
  obtain ⟨p0, p0f⟩ := N1.out.cell
  obtain ⟨q0, q0f⟩ := (H2.out.nd.below bq).cell
  rw [HN.out] at p0
  rw [HM.out] at q0
  have HO := Lib.hid (show OwP wq.drew B (.slice (some ⟨ga, 0, none⟩) n ca) c1.ps by have := N1.out.own; rw [HN.out] at this; exact this)
  have HNW := Lib.hid (show ∀ j u, (pcells c2.ps)[j]? = some u → wq.drew.cell? ((⟨gd, 0, none⟩ : Addr).add j) = some u by
    have := (H2.out.nd.below bq).own
    rw [HM.out] at this
    have := this.from 0
    rw [List.drop_zero, Nat.zero_mul] at this
    exact this)
  have lqB : B ≤ wq.drew.heap.size := Nat.le_trans hBw lq
  clear hwq bq
  go_wp2_with fail
  go_upto_region 1 with fail
  go_cut [4] (fun q wx => q = .pointer (some ⟨c1.g, 0, none⟩) ∧ ∃ w3 a3 m3 k3, wx = World.setCell w3 ⟨c1.g, 0, none⟩ (.slice a3 m3 k3) ∧ OwP w3 B (.slice a3 m3 k3) (c1.ps ++ c2.ps) ∧ NewB wq.drew (.slice (some ⟨ga, 0, none⟩) n ca) (.slice a3 m3 k3) ∧ wq.drew.grownBy w3 (some ga))
  case first =>
    go_region_law (refine step_pushP rfl (.tmp 27) (.tmp 31) rfl B (.slice (some ⟨ga, 0, none⟩) n ca) c1.ps (by simp [Act.eval, Act.put]) HO.out lqB ⟨gd, 0, none⟩ m cd c2.ps HM.out (by simp [Act.eval, Act.put]) HNW.out (by rw [HN.out]; omega) ?_; rintro v3 w3 o3 g3 q3; obtain ⟨a3, m3, k3, rfl⟩ := o3.form'; obtain ⟨x3, x3f, -⟩ := head_grown (w := wq.drew) N1.out.hd g3 (by simp [Value.ownBlock]; exact ne5); have HX := Lib.hid (show ∃ w3' a3' m3' k3', w3.setCell ⟨c1.g, 0, none⟩ (.slice a3 m3 k3) = World.setCell w3' ⟨c1.g, 0, none⟩ (.slice a3' m3' k3') ∧ OwP w3' B (.slice a3' m3' k3') (c1.ps ++ c2.ps) ∧ NewB wq.drew (.slice (some ⟨ga, 0, none⟩) n ca) (.slice a3' m3' k3') ∧ wq.drew.grownBy w3' (some ga) from ⟨w3, a3, m3, k3, rfl, o3, q3, g3⟩); clear g3 o3 q3)
    all_goals
      go_wp2_with fail
      go_meet
      exact ⟨rfl, HX.out⟩
  case rest =>
    obtain ⟨rfl, w3, a3, m3, k3, hwc, o3, q3, g3⟩ := hcut
    have h3 : w3.heap[c1.g]? = some (.cells #[.slice (some ⟨ga, 0, none⟩) c1.ps.length ca] 124 (0, 0)) := (g3.block c1.g (Nat.lt_of_lt_of_le lc lq) (fun e => ne5 (by injection e with e; exact e.symm))).trans N1.out.hd
    have n4 : NdAt B wc c1.g (.slice a3 m3 k3) (c1.ps ++ c2.ps) := by
      rw [hwc]
      refine ⟨node_put h3, ?_, N1.out.bg⟩
      exact (Frm.set1 (F := fun k => k = c1.g) w3 rfl 0 _).owP o3 (fun k hk e => own_ne o3 h3 (by decide) (by rw [hk, e]))
    have f24 : Frm (fun k => k = ga ∨ k = c1.g) wq wc := by
      rw [hwc]
      exact Frm.setCell (F := fun k => k = ga ∨ k = c1.g) (w := wq) (w1 := w3) ((Frm.refl _ wq).drew.trans (F1 := fun k => k = ga) (Frm.ofGrown g3 (fun k e => by injection e with e; exact e.symm)) (fun k hk => .inl (.inl hk))) (.inl (.inr rfl)) 0 _
    have ng4 := NG.out.step f24 (by rintro (e | e); exact ne3 e.symm; exact ne1 e.symm) (by
      intro k hk
      simp only [Value.ownBlock, Option.some.injEq] at hk
      subst hk
      rintro (e | e)
      · exact ne4 e
      · exact ne2 e)
    obtain ⟨y4, y4f⟩ := ng4.cell
    rw [HL.out] at y4
    have HD := Lib.hid (del_any B wc (.slice (some ⟨gb, 0, none⟩) ((A ++ c1 :: c2 :: C).map Kd.pv).length cap) ((A ++ c1 :: c2 :: C).map Kd.pv) ng4.own (by rw [HL.out]; omega) (a + 1) (a + 2) (by omega) (by rw [HL.out]; omega))
    rw [HL.out, show ((a + 1 : Nat) : Int) = (a : Int) + 1 by omega, show ((a + 2 : Nat) : Int) = (a : Int) + 2 by omega] at HD
    have lists : ((A ++ c1 :: c2 :: C).map Kd.pv).take (a + 1) ++ ((A ++ c1 :: c2 :: C).map Kd.pv).drop (a + 2) = (A ++ c1 :: C).map Kd.pv := by
      have e1 : (A ++ c1 :: c2 :: C).map Kd.pv = (A ++ [c1]).map Kd.pv ++ (c2 :: C).map Kd.pv := by simp
      have e2 : a + 1 = ((A ++ [c1]).map Kd.pv).length := by simp; exact HA.out.symm
      have e3 : (A ++ c1 :: c2 :: C).map Kd.pv = (A ++ [c1, c2]).map Kd.pv ++ C.map Kd.pv := by simp
      have e4 : a + 2 = ((A ++ [c1, c2]).map Kd.pv).length := by simp; have := HA.out; omega
      conv => lhs; arg 1; rw [e1, e2, List.take_left]
      conv => lhs; arg 2; rw [e3, e4, List.drop_left]
      simp
    have HFIN := Lib.hid (show ∀ w6 v7, OwP w6 B v7 (((A ++ c1 :: c2 :: C).map Kd.pv).take (a + 1) ++ ((A ++ c1 :: c2 :: C).map Kd.pv).drop (a + 2)) → v7.ownBlock = (Value.slice (some ⟨gb, 0, none⟩) (a + 2 + b) cap).ownBlock → wc.grownBy w6 (Value.slice (some ⟨gb, 0, none⟩) (a + 2 + b) cap).ownBlock → P (.returned (.tuple #[])) (w6.setCell ⟨g, 0, none⟩ v7) by
      intro w6 v7 o7 b7 g7
      have g7' : wc.grownBy w6 (some gb) := g7
      have f7 : Frm (fun k => k = gb ∨ k = g) wc (w6.setCell ⟨g, 0, none⟩ v7) := (Frm.ofGrown (F := fun k => k = gb ∨ k = g) g7' (fun k e => .inl (by injection e with e; exact e.symm))).setCell (.inl (.inr rfl)) 0 v7
      have hg6 : w6.heap[g]? = some (.cells #[.slice (some ⟨gb, 0, none⟩) ((A ++ c1 :: c2 :: C).map Kd.pv).length cap] 124 (0, 0)) := by
        rw [g7'.block g ng4.lt (fun e => ne6 (by injection e with e; exact e.symm))]
        exact ng4.hd
      have n0 : NdAt B (w6.setCell ⟨g, 0, none⟩ v7) g v7 ((A ++ c1 :: C).map Kd.pv) := by
        rw [← lists]
        refine ⟨node_put hg6, ?_, ng4.bg⟩
        exact (Frm.set1 (F := fun k => k = g) w6 rfl 0 _).owP o7 (fun k hk e => own_ne o7 hg6 (by decide) (by rw [hk, e]))
      have hb3 : ∀ k, (Value.slice a3 m3 k3).ownBlock = some k → k = ga ∨ w.heap.size ≤ k := by
        intro k hk
        rcases q3 k hk with e | e
        · simp only [Value.ownBlock, Option.some.injEq] at e; exact .inl e.symm
        · have e' : wq.heap.size ≤ k := e
          exact .inr (by omega)
      have n1 := n4.step f7 (by rintro (e | e); exact ne2 e.symm; exact ne1 e) (by
        intro k hk
        rcases hb3 k hk with rfl | e
        · rintro (e | e)
          · exact ne4 e.symm
          · exact ne3 e
        · rintro (e | e) <;> omega)
      have hf : Frm (fun k => k = c1.g ∨ (Value.slice (some ⟨ga, 0, none⟩) c1.ps.length ca).ownBlock = some k ∨ k = g ∨ (Value.slice (some ⟨gb, 0, none⟩) ((A ++ c1 :: c2 :: C).map Kd.pv).length cap).ownBlock = some k) w (w6.setCell ⟨g, 0, none⟩ v7) := by
        refine ((Frm.of_below BQ.out).trans (F1 := fun k => k = ga ∨ k = c1.g) f24 ?_).trans f7 ?_
        · rintro k (rfl | rfl)
          · exact .inl (.inr (.inl rfl))
          · exact .inl (.inl rfl)
        · rintro k (rfl | rfl)
          · exact .inl (.inr (.inr (.inr rfl)))
          · exact .inl (.inr (.inr (.inl rfl)))
      obtain ⟨G', c, r1, r2, r3, r4, r5⟩ := join_end H.out H1.out H2.out HNE.out hf n0 n1 (fun k hk => by
        rcases hb3 k hk with rfl | e
        · exact .inl rfl
        · exact .inr e) b7
      rw [← HP.out]
      refine ⟨v7, G', c, rfl, r1, r2, r3, r4, hf.mono ?_, r5⟩
      have hin : ∀ k, c1.F k → G k := fun k hk => by rw [H.out.kids.foot]; exact ⟨c1, List.mem_append_right _ (List.mem_cons_self ..), hk⟩
      rintro k (rfl | hk | rfl | hk)
      · exact .inr (.inr (hin _ (HF1.out _ (.inl rfl))))
      · exact .inr (.inr (hin _ (HF1.out _ (.inr (.inl hk)))))
      · exact .inl rfl
      · exact .inr (.inl hk))
    have HG4 := Lib.hid ng4.hd
    clear h3 o3 g3 lists f24 ng4 n4 hwc q3
    go_wp2_with (first | (go_at_call 95; refine HD.out.mono ?_; rintro e w6 ⟨v7, rfl, o7, b7, g7⟩; obtain ⟨a7, m7, k7, rfl⟩ := o7.form'; obtain ⟨x6, x6f, -⟩ := head_grown HG4.out g7 (by simp [Value.ownBlock]; exact ne6); have HX := Lib.hid (HFIN.out _ _ o7 b7 g7); clear o7 b7 g7))
    all_goals exact bodyPost_ret (v := .tuple #[]) (by simp [results, Tryd.results124, go_sem]) rfl HX.out

end Go.Proofs.YtmmchhlfbhbigaaDoor

namespace Go.Proofs.YtmmchhlfbhbigaaDoor
set_option maxRecDepth 100000
open Go.RowKit Go.Joins Go.ChangeShapes Go.WideShapes
set_option linter.unusedVariables false

theorem heads {A C D : List Kd} {c : Kd} {k : Option (List Nat)} (h : ((A ++ c :: C).head?.map Kd.k) = k) {c' : Kd} (e : c'.key = c.key) : ((A ++ c' :: D).head?.map Kd.k) = k := by
  cases A with
  | nil =>
    rw [← h]
    show some (sl c'.key) = some (sl c.key)
    rw [e]
  | cons a r => exact h

set_option maxHeartbeats 4000000 in
set_option maxRecDepth 100000 in
theorem refill_two (B d : Nat) (w : World) (g : Nat) (v : Value) (G : Bl) (A C : List Kd) (c1 c2 : Kd) (h : Nod B d w g v G (A ++ c1 :: c2 :: C)) (hs1 : 3 ≤ c1.ps.length) (hs2 : 3 ≤ c2.ps.length) (hs3 : 4 ≤ c1.ps.length + c2.ps.length - 3) (hs4 : c1.ps.length + c2.ps.length ≤ 15) (hsA : Sz A) (hsC : Sz C) (hn : (A ++ c1 :: c2 :: C).length ≤ 2147483648)
    (i : Int) (hi : i = (A.length : Nat) + 1 ∨ (i = 0 ∧ A.length = 0)) :
    Calls Tryd.prog 97 #[.pointer (some ⟨g, 0, none⟩), .int .i64 i] w fun e w' => ∃ v' G' ks, e = .returned (.tuple #[]) ∧ Nod B d w' g v' G' ks ∧ Sz ks ∧ ks.flatMap Kd.es = (A ++ c1 :: c2 :: C).flatMap Kd.es ∧ ks.head?.map Kd.k = (A ++ c1 :: c2 :: C).head?.map Kd.k ∧
      A.length + C.length + 1 ≤ ks.length ∧ ks.length ≤ A.length + C.length + 2 ∧ Frm (Fo g v G) w w' ∧ New w (Fo g v G) (Fo g v' G') := by
  generalize hP : (fun (e : Ending) (w' : World) => ∃ v' G' ks, e = .returned (.tuple #[]) ∧ Nod B d w' g v' G' ks ∧ Sz ks ∧ ks.flatMap Kd.es = (A ++ c1 :: c2 :: C).flatMap Kd.es ∧ ks.head?.map Kd.k = (A ++ c1 :: c2 :: C).head?.map Kd.k ∧
      A.length + C.length + 1 ≤ ks.length ∧ ks.length ≤ A.length + C.length + 2 ∧ Frm (Fo g v G) w w' ∧ New w (Fo g v G) (Fo g v' G')) = P
  have hn2 : A.length + C.length + 2 ≤ 2147483648 := by simp at hn; omega
  have hlt : g < w.heap.size := h.nd.lt
  have HJ := Lib.hid (join_any B d w g v G A C c1 c2 h (by intro e; rw [e] at hs1; simp at hs1) (by intro e; rw [e] at hs2; simp at hs2) (by omega) hn)
  obtain ⟨a, ea⟩ : ∃ n, A.length = n := ⟨_, rfl⟩
  rw [ea] at HJ hi hn2
  have HA := Lib.hid ea
  have HP := Lib.hid hP
  have H := Lib.hid h
  obtain ⟨n, en⟩ : ∃ n, c1.ps.length + c2.ps.length = n := ⟨_, rfl⟩
  have EN := Lib.hid en
  have hn7 : 7 ≤ n := by omega
  have hn15 : n ≤ 15 := by omega
  obtain ⟨b, eb⟩ : ∃ n, C.length = n := ⟨_, rfl⟩
  rw [eb] at hn2
  have HB9 := Lib.hid eb
  have SA := Lib.hid hsA
  have SC := Lib.hid hsC
  have hl0 : (a : Int) + 1 - 1 = (a : Int) := by omega
  clear hP h ea en eb hs1 hs2 hs3 hs4 hsA hsC hn
  have key : ∀ i : Int, (i = (a : Int) + 1 ∨ (i = 0 ∧ a = 0)) → Calls Tryd.prog 97 #[.pointer (some ⟨g, 0, none⟩), .int .i64 i] w P := by
    intro i hi
    have go : ∀ (w1 : World) (v1 : Value) (G1 : Bl) (c : Kd), Nod B d w1 g v1 G1 (A ++ c :: C) → c.key = c1.key → c.ps = c1.ps ++ c2.ps → c.es = c1.es ++ c2.es → Frm (Fo g v G) w w1 → New w (Fo g v G) (Fo g v1 G1) →
        (8 ≤ n → Calls Tryd.prog 93 #[.pointer (some ⟨g, 0, none⟩), .int .i64 (a : Int)] w1 fun e w' => e = .returned (.tuple #[]) ∧ P (.returned (.tuple #[])) w') ∧
        (n < 8 → P (.returned (.tuple #[])) w1) ∧
        ∃ gb cap gc cac, 0 < a + 1 + b ∧ w1.cell? ⟨g, 0, none⟩ = some (.slice (some ⟨gb, 0, none⟩) (a + 1 + b) cap) ∧ w1.cell? ⟨gb, a * 3 + 2, none⟩ = some (.pointer (some ⟨c.g, 0, none⟩)) ∧ w1.cell? ⟨c.g, 0, none⟩ = some (.slice (some ⟨gc, 0, none⟩) n cac) := by
      intro w1 v1 G1 c nod ck cp ce f1 nw1
      have hcl : c.ps.length = n := by rw [cp, List.length_append]; exact EN.out
      have hfe : (A ++ c :: C).flatMap Kd.es = (A ++ c1 :: c2 :: C).flatMap Kd.es := by simp [ce]
      refine ⟨fun h8 => ?_, fun h8 => ?_, ?_⟩
      · have := halve_any B d w1 g v1 G1 A C c nod (by omega) (by omega) (by simp; have := HA.out; have := HB9.out; omega)
        rw [HA.out] at this
        refine this.mono ?_
        rintro e w' ⟨v', G', x1, x2, rfl, nod', k1, k2, k3, k4, f2, nw2⟩
        refine ⟨rfl, ?_⟩
        rw [← HP.out]
        refine ⟨v', G', _, rfl, nod', ?_, ?_, ?_, ?_, ?_, f1.trans f2 nw1, nw1.trans nw2 f1.size⟩
        · intro x hx
          rcases List.mem_append.1 hx with hx | hx
          · exact SA.out x hx
          · rcases List.mem_cons.1 hx with rfl | hx
            · omega
            · rcases List.mem_cons.1 hx with rfl | hx
              · omega
              · exact SC.out x hx
        · rw [← hfe]
          simp [← k4]
        · exact heads rfl (k1.trans ck)
        · simp; omega
        · simp; omega
      · rw [← HP.out]
        refine ⟨v1, G1, _, rfl, nod, ?_, hfe, heads rfl ck, by simp; omega, by simp; omega, f1, nw1⟩
        intro x hx
        rcases List.mem_append.1 hx with hx | hx
        · exact SA.out x hx
        · rcases List.mem_cons.1 hx with rfl | hx
          · omega
          · exact SC.out x hx
      · have hpv : ((A ++ c :: C).map Kd.pv)[a]? = some c.pv := by rw [← HA.out, List.getElem?_map, List.getElem?_append_right (Nat.le_refl _), Nat.sub_self]; rfl
        obtain ⟨vc, Gc, hc⟩ := nod.kids.sub c (List.mem_append_right _ (List.mem_cons_self ..))
        obtain ⟨gb, cap, rfl, k1, k2, -, -, d1, -⟩ := nod.nd.own.at hpv
        obtain ⟨gc, cac, rfl, -⟩ := hc.nd.own.at (List.getElem?_eq_getElem (show 0 < c.ps.length by omega))
        obtain ⟨c0, -⟩ := nod.nd.cell
        obtain ⟨x0, -⟩ := hc.nd.cell
        rw [show ((A ++ c :: C).map Kd.pv).length = a + 1 + b by simp; have := HA.out; have := HB9.out; omega] at c0
        rw [hcl] at x0
        exact ⟨gb, cap, gc, cac, by omega, c0, d1, x0⟩
    have GO := Lib.hid go
    clear go
    rcases hi with rfl | ⟨rfl, h0⟩
    · have hk0 : (a : Int) < (a : Int) + 1 + (b : Int) := by omega
      go_enter Tryd.func97, Tryd.ntmps97
      go_upto_region 2 with (go_at_call 124; refine HJ.out.mono ?_; rintro e w1 ⟨v1, G1, c, rfl, nod, ck, cp, ce, f1, nw1⟩; obtain ⟨gh, gl, gb, cap, gc, cac, z0, z1, z2, z3⟩ := GO.out _ _ _ _ nod ck cp ce f1 nw1; have GH := Lib.hid gh; have GL := Lib.hid gl; clear nod ck cp ce f1 nw1 gh gl)
      by_cases h8 : 8 ≤ n
      · have h8i : (8 : Int) ≤ (n : Int) := by omega
        go_wp2_with (go_at_call 93; refine (GH.out h8).mono ?_; rintro e w2 ⟨rfl, hp2⟩; have HX := Lib.hid hp2; clear hp2)
        exact bodyPost_ret (v := .tuple #[]) (by simp [results, Tryd.results97, go_sem]) rfl HX.out
      · have h8i : decide ((8 : Int) ≤ (n : Int)) = false := by simp; omega
        go_wp2_with fail
        exact bodyPost_ret (v := .tuple #[]) (by simp [results, Tryd.results97, go_sem]) rfl (GL.out (by omega))
    · have h0' := h0
      have hk0 : (0 : Int) < (0 : Int) + 1 + (b : Int) := by omega
      subst h0
      go_enter Tryd.func97, Tryd.ntmps97
      go_upto_region 2 with (go_at_call 124; refine HJ.out.mono ?_; rintro e w1 ⟨v1, G1, c, rfl, nod, ck, cp, ce, f1, nw1⟩; obtain ⟨gh, gl, gb, cap, gc, cac, z0, z1, z2, z3⟩ := GO.out _ _ _ _ nod ck cp ce f1 nw1; have GH := Lib.hid gh; have GL := Lib.hid gl; clear nod ck cp ce f1 nw1 gh gl)
      by_cases h8 : 8 ≤ n
      · have h8i : (8 : Int) ≤ (n : Int) := by omega
        go_wp2_with (go_at_call 93; refine (GH.out h8).mono ?_; rintro e w2 ⟨rfl, hp2⟩; have HX := Lib.hid hp2; clear hp2)
        exact bodyPost_ret (v := .tuple #[]) (by simp [results, Tryd.results97, go_sem]) rfl HX.out
      · have h8i : decide ((8 : Int) ≤ (n : Int)) = false := by simp; omega
        go_wp2_with fail
        exact bodyPost_ret (v := .tuple #[]) (by simp [results, Tryd.results97, go_sem]) rfl (GL.out (by omega))
  exact key i hi

end Go.Proofs.YtmmchhlfbhbigaaDoor

namespace Go.Proofs.YtmmchhlfbhbigaaDoor
set_option maxRecDepth 100000
open Go.RowKit Go.Joins Go.ChangeShapes Go.WideShapes
set_option linter.unusedVariables false

theorem ePlN_first (k : List Nat) : ∀ (l : List Ent) (s : Nat), (∀ e ∈ l.take ((ePlN l k s).1 - s), klt e.1 k) ∧ (∀ e, l[(ePlN l k s).1 - s]? = some e → ¬ klt e.1 k ∧ (ePlN l k s).2 = decide (ordB e.1 k = 0)) ∧ (l.length ≤ (ePlN l k s).1 - s → (ePlN l k s).2 = false)
  | [], s => by simp [ePlN]
  | x :: l, s => by
    unfold ePlN
    by_cases q : 0 ≤ ordB x.1 k
    · rw [if_pos q]
      refine ⟨by simp, fun e he => ?_, fun h => by simp at h⟩
      simp only [Nat.sub_self, List.getElem?_cons_zero, Option.some.injEq] at he
      subst he
      exact ⟨not_klt.1 q, rfl⟩
    · rw [if_neg q]
      obtain ⟨h1, h2, h3⟩ := ePlN_first k l (s + 1)
      have hge := (ePlN_le l k (s + 1)).1
      obtain ⟨j, hj⟩ : ∃ j, (ePlN l k (s + 1)).1 = s + 1 + j := ⟨(ePlN l k (s + 1)).1 - (s + 1), by omega⟩
      rw [hj] at h1 h2 h3 ⊢
      rw [show s + 1 + j - (s + 1) = j by omega] at h1 h2 h3
      rw [show s + 1 + j - s = j + 1 by omega]
      refine ⟨fun e he => ?_, fun e he => h2 e (by simpa using he), fun h => h3 (by simpa using h)⟩
      rw [List.take_succ_cons] at he
      rcases List.mem_cons.1 he with rfl | he
      · unfold klt; omega
      · exact h1 e he
theorem ePl_take {l : List Ent} {k : List Nat} : ∀ e ∈ l.take (ePl l k).1, klt e.1 k := (ePlN_first k l 0).1
theorem ePl_drop {l : List Ent} {k : List Nat} (hs : Srt l) (hf : (ePl l k).2 = false) : ∀ e ∈ l.drop (ePl l k).1, klt k e.1 := by
  intro e he
  have h2 := (ePlN_first k l 0).2.1
  simp only [Nat.sub_zero] at h2
  change ∀ e, l[(ePl l k).1]? = some e → ¬ klt e.1 k ∧ (ePl l k).2 = decide (ordB e.1 k = 0) at h2
  generalize (ePl l k).1 = i at *
  cases hx : l[i]? with
  | none =>
    rw [List.drop_eq_nil_of_le (by simpa using hx)] at he
    cases he
  | some x =>
    obtain ⟨q1, q2⟩ := h2 x hx
    rw [hf] at q2
    have q3 : ¬ ordB x.1 k = 0 := of_decide_eq_false q2.symm
    have q4 : klt k x.1 := by
      rcases klt_or k x.1 with h | h | h
      · exact h
      · rw [h] at q3; exact absurd (ob_self _) q3
      · exact absurd h q1
    rw [drop_cons hx] at he
    rcases List.mem_cons.1 he with rfl | he
    · exact q4
    · have hd := hs.sublist (List.drop_sublist i l)
      rw [drop_cons hx] at hd
      exact klt_trans q4 ((List.pairwise_cons.1 hd).1 e he)
theorem ePut_srt {l : List Ent} {k : List Nat} {id : Int} (hs : Srt l) : Srt (ePut l k id) := by
  unfold ePut
  split
  · exact hs
  · rename_i hf
    have hf' : (ePl l k).2 = false := by simpa using hf
    have h1 := ePl_take (l := l) (k := k)
    have h2 := ePl_drop hs hf'
    have hp : l = l.take (ePl l k).1 ++ l.drop (ePl l k).1 := (List.take_append_drop _ _).symm
    have hs' := hs
    unfold Srt at hs' ⊢
    rw [hp, List.pairwise_append] at hs'
    rw [List.append_assoc]
    refine List.pairwise_append.2 ⟨hs'.1, List.pairwise_append.2 ⟨List.pairwise_singleton _ _, hs'.2.1, ?_⟩, ?_⟩
    · intro a ha b hb
      simp only [List.mem_singleton] at ha
      subst ha
      exact h2 b hb
    · intro a ha b hb
      rcases List.mem_append.1 hb with hb | hb
      · simp only [List.mem_singleton] at hb
        subst hb
        exact h1 a ha
      · exact hs'.2.2 a ha b hb
theorem ePut_mem {l : List Ent} {k : List Nat} {id : Int} {e : Ent} (h : e ∈ ePut l k id) : e ∈ l ∨ e = (k, id) := by
  unfold ePut at h
  split at h
  · exact .inl h
  · rcases List.mem_append.1 h with h | h
    · rcases List.mem_append.1 h with h | h
      · exact .inl (List.mem_of_mem_take h)
      · exact .inr (by simpa using h)
    · exact .inl (List.mem_of_mem_drop h)
theorem eDel_mem {l : List Ent} {k : List Nat} {e : Ent} (h : e ∈ eDel l k) : e ∈ l := by
  unfold eDel at h
  split at h
  · rcases List.mem_append.1 h with h | h
    · exact List.mem_of_mem_take h
    · exact List.mem_of_mem_drop h
  · exact h
theorem eDel_srt {l : List Ent} {k : List Nat} (hs : Srt l) : Srt (eDel l k) := by
  unfold eDel
  split
  · refine hs.sublist ?_
    conv => rhs; rw [← List.take_append_drop (ePl l k).1 l]
    exact (List.Sublist.refl _).append (by rw [← List.drop_drop]; exact List.drop_sublist _ _)
  · exact hs

/-- a child has turned -/
theorem Nod.kid {B d : Nat} {w w2 : World} {g : Nat} {v : Value} {G F' : Bl} {A C : List Kd} {c : Kd} {ps' : List Pv} {es' : List Ent} (h : Nod B d w g v G (A ++ c :: C)) (hf : Frm c.F w w2) (hn : New w c.F F')
    (hs : Sub B d w2 F' c.g c.k ps' es') (hC : ∀ e ∈ es', ∀ x ∈ C, klt e.1 x.k) :
    ∃ G2, Nod B d w2 g v G2 (A ++ { c with F := F', ps := ps', es := es' } :: C) ∧ New w (Fo g v G) (Fo g v G2) := by
  have hr := List.pairwise_append.1 h.kids.rise
  have hr2 := List.pairwise_cons.1 hr.2.1
  have mc : c ∈ A ++ c :: C := List.mem_append_right _ (List.mem_cons_self ..)
  have mo : ∀ x, x ∈ A ∨ x ∈ C → x ∈ A ++ c :: C := by
    rintro x (hx | hx)
    · exact List.mem_append_left _ hx
    · exact List.mem_append_right _ (List.mem_cons_of_mem _ hx)
  have inG : ∀ x ∈ A ++ c :: C, ∀ k, x.F k → G k := fun x hx k hk => by rw [h.kids.foot]; exact ⟨x, hx, hk⟩
  have hoth : ∀ x, x ∈ A ∨ x ∈ C → ∀ k, x.F k → ¬ c.F k := by
    rintro x (hx | hx) k hk
    · exact (hr.2.2 x hx c (List.mem_cons_self ..)).2.2 k hk
    · exact fun hck => (hr2.1 x hx).2.2 k hck hk
  have hw : ∀ x, x ∈ A ∨ x ∈ C → Sub B d w2 x.F x.g x.k x.ps x.es := fun x hx => (h.kids.sub x (mo x hx)).step hf (hoth x hx)
  have old : ∀ k, G k → k ≠ g ∧ v.ownBlock ≠ some k ∧ B ≤ k ∧ k < w2.heap.size := by
    intro k hk
    obtain ⟨q1, q2, q3, q4⟩ := h.apart k hk
    exact ⟨q1, q2, q3, Nat.lt_of_lt_of_le q4 hf.size⟩
  have hd : ∀ x, x ∈ A ∨ x ∈ C → ∀ k, x.F k → ¬ F' k := by
    intro x hx k hk hk'
    rcases hn k hk' with q | q
    · exact hoth x hx k hk q
    · have := (h.apart k (inG x (mo x hx) k hk)).2.2.2; omega
  have hng : ∀ k, c.F k → k ≠ g ∧ v.ownBlock ≠ some k := fun k hk => ⟨(h.apart k (inG c mc k hk)).1, (h.apart k (inG c mc k hk)).2.1⟩
  refine ⟨fun k => ∃ x ∈ A ++ { c with F := F', ps := ps', es := es' } :: C, x.F k, ⟨?_, ⟨?_, ?_, rfl⟩, ?_⟩, ?_⟩
  · have := h.nd.step hf (fun e => (hng g e).1 rfl) (fun k hk e => (hng k e).2 hk)
    simpa [Kd.pv] using this
  · intro x hx
    rcases List.mem_append.1 hx with hx | hx
    · exact hw x (.inl hx)
    · rcases List.mem_cons.1 hx with rfl | hx
      · exact hs
      · exact hw x (.inr hx)
  · refine List.pairwise_append.2 ⟨hr.1, List.pairwise_cons.2 ⟨fun x hx => ⟨(hr2.1 x hx).1, fun e he => hC e he x hx, fun k hk hxk => hd x (.inr hx) k hxk hk⟩, hr2.2⟩, fun a ha x hx => ?_⟩
    rcases List.mem_cons.1 hx with rfl | hx
    · have q := hr.2.2 a ha c (List.mem_cons_self ..)
      exact ⟨q.1, q.2.1, fun k hk hxk => hd a (.inl ha) k hk hxk⟩
    · exact hr.2.2 a ha x (List.mem_cons_of_mem _ hx)
  · rintro k ⟨x, hx, hxk⟩
    rcases List.mem_append.1 hx with hx | hx
    · exact old k (inG x (mo x (.inl hx)) k hxk)
    · rcases List.mem_cons.1 hx with rfl | hx
      · rcases hn k hxk with q | q
        · exact old k (inG c mc k q)
        · refine ⟨fun e => ?_, fun e => ?_, (hs.low k hxk)⟩
          · have := h.nd.lt; omega
          · have := (h.nd.own.lt k e).2; omega
      · exact old k (inG x (mo x (.inr hx)) k hxk)
  · intro k hk
    rcases hk with hk | hk | ⟨x, hx, hxk⟩
    · exact .inl (.inl hk)
    · exact .inl (.inr (.inl hk))
    · rcases List.mem_append.1 hx with hx | hx
      · exact .inl (.inr (.inr (inG x (mo x (.inl hx)) k hxk)))
      · rcases List.mem_cons.1 hx with rfl | hx
        · rcases hn k hxk with q | q
          · exact .inl (.inr (.inr (inG c mc k q)))
          · exact .inr q
        · exact .inl (.inr (.inr (inG x (mo x (.inr hx)) k hxk)))
theorem Nod.below {B d : Nat} {w w1 : World} {g : Nat} {v : Value} {G : Bl} {ks : List Kd} (h : Nod B d w g v G ks) (hb : Below w.heap.size w w1) : Nod B d w1 g v G ks :=
  ⟨h.nd.below hb, ⟨fun c hc => (h.kids.sub c hc).below hb, h.kids.rise, h.kids.foot⟩, fun k hk => ⟨(h.apart k hk).1, (h.apart k hk).2.1, (h.apart k hk).2.2.1, Nat.lt_of_lt_of_le (h.apart k hk).2.2.2 hb.size⟩⟩
theorem Nod.sub {B d : Nat} {w : World} {g : Nat} {v : Value} {G : Bl} {ks : List Kd} {lo : List Nat} (h : Nod B d w g v G ks) (hs : Sz ks) (hl : ks.head?.map Kd.k = some lo) : Sub B (d + 1) w (Fo g v G) g lo (ks.map Kd.pv) (ks.flatMap Kd.es) :=
  ⟨v, G, h.nd, cont_succ.2 ⟨ks, h.kids, hs, rfl, rfl, hl⟩, h.apart, rfl⟩
theorem Sub.nod {B d : Nat} {w : World} {F : Bl} {g : Nat} {lo : List Nat} {ps : List Pv} {es : List Ent} (h : Sub B (d + 1) w F g lo ps es) : ∃ v G ks, Nod B d w g v G ks ∧ Sz ks ∧ ps = ks.map Kd.pv ∧ es = ks.flatMap Kd.es ∧ ks.head?.map Kd.k = some lo ∧ F = Fo g v G := by
  obtain ⟨v, G, h⟩ := h
  obtain ⟨ks, hk, hs, hp, he, hl⟩ := cont_succ.1 h.con
  exact ⟨v, G, ks, ⟨by rw [← hp]; exact h.nd, hk, h.apart⟩, hs, hp, he, hl, h.foot⟩

/-- isLeaf, of a tree -/
theorem isleaf_sub0 {B : Nat} {w : World} {F : Bl} {g : Nat} {lo : List Nat} {ps : List Pv} {es : List Ent} (h : Sub B 0 w F g lo ps es) (hn : ps.length ≤ 4294967296) :
    Calls Tryd.prog 67 #[.pointer (some ⟨g, 0, none⟩)] w fun e w' => e = .returned (.bool true) ∧ w = w' := by
  obtain ⟨v, G, h⟩ := h
  cases ps with
  | nil => exact isleaf_nil B w g v h.nd
  | cons p r =>
    have := isleaf_cons B w g v p r h.nd (by simp at hn; omega)
    rw [h.con.2.1 p (List.mem_cons_self ..)] at this
    exact this
theorem isleaf_nod {B d : Nat} {w : World} {g : Nat} {v : Value} {G : Bl} {ks : List Kd} (h : Nod B d w g v G ks) (hne : ks ≠ []) (hn : ks.length ≤ 4294967296) :
    Calls Tryd.prog 67 #[.pointer (some ⟨g, 0, none⟩)] w fun e w' => e = .returned (.bool false) ∧ w = w' := by
  cases ks with
  | nil => exact absurd rfl hne
  | cons c r => exact isleaf_cons B w g v c.pv (r.map Kd.pv) h.nd (by simp at hn; simp; omega)

/-- what put answers, and leaves -/
def PutPost (B d : Nat) (w : World) (F : Bl) (g : Nat) (lo : List Nat) (ps : List Pv) (es : List Ent) (k : List Nat) (id : Int) (e : Ending) (w' : World) : Prop :=
  ((ePl es k).2 = true ∧ e = .returned (.bool false) ∧ Below w.heap.size w w') ∨
  ((ePl es k).2 = false ∧ e = .returned (.bool true) ∧ ∃ F' ps', Frm F w w' ∧ New w F F' ∧ Sub B d w' F' g lo ps' (ePut es k id) ∧ ps.length ≤ ps'.length ∧ ps'.length ≤ ps.length + 1)

set_option maxHeartbeats 4000000 in
set_option maxRecDepth 100000 in
theorem put_leaf (B : Nat) (w : World) (F : Bl) (g : Nat) (lo : List Nat) (ps : List Pv) (es : List Ent) (h : Sub B 0 w F g lo ps es) (hn : ps.length ≤ 2147483648) (s : ByteArray) (hlo : ¬ klt (sl s) lo) (id : Int) :
    Calls Tryd.prog 92 #[.pointer (some ⟨g, 0, none⟩), .string s, .int .i64 id] w (PutPost B 0 w F g lo ps es (sl s) id) := by
  have HLF := Lib.hid (isleaf_sub0 h (by omega))
  obtain ⟨v, G, h⟩ := h
  obtain ⟨hG, hnone, hes, hsrt, hall⟩ := h.con
  have HFD := Lib.hid (find_any B w g v ps h.nd (by rw [← hes]; exact hsrt) (by omega) s)
  rw [← hes] at HFD
  generalize hP : PutPost B 0 w F g lo ps es (sl s) id = P
  have hle := (ePl_le es (sl s)).1
  have hl : es.length = ps.length := by rw [hes]; unfold ents; rw [List.length_map]
  have hput : ePut es (sl s) id = if (ePl es (sl s)).2 then es else es.take (ePl es (sl s)).1 ++ [(sl s, id)] ++ es.drop (ePl es (sl s)).1 := rfl
  have hps : ePut es (sl s) id = ePut es (sl s) id := rfl
  have hsp := ePut_srt (k := sl s) (id := id) hsrt
  obtain ⟨T, hT⟩ : ∃ T, ePl es (sl s) = T := ⟨_, rfl⟩
  have HT := Lib.hid hT
  rw [hT] at HFD hput hle
  obtain ⟨i, t⟩ := T
  dsimp only at HFD hput hle
  have HP := Lib.hid hP
  have HN := Lib.hid h.nd
  have hbg : B ≤ w.heap.size := Nat.le_trans h.nd.bg (Nat.le_of_lt h.nd.lt)
  have lg := h.nd.lt
  have hne := h.nd.ne
  cases t with
  | true =>
    clear h hP hT hput hps hall hes hsrt hle hsp hne hG hnone
    go_enter Tryd.func92, Tryd.ntmps92
    go_wp2_with (first | (go_at_call 67; refine HLF.out.mono ?_; rintro e w1 ⟨rfl, rfl⟩) | (go_at_call 94; refine HFD.out.mono ?_; rintro e w1 ⟨rfl, b1⟩; have HB1 := Lib.hid b1; clear b1))
    rw [← HP.out]
    exact .inl ⟨by rw [HT.out], rfl, HB1.out⟩
  | false =>
    rw [if_neg (by simp)] at hput
    have hents : ePut es (sl s) id = ents (ps.take i ++ (s, id, none) :: ps.drop i) := by
      rw [hput, hes]; unfold ents; simp
    have HFIN := Lib.hid (show ∀ wx w6 v7, Below w.heap.size w wx → OwP w6 B v7 (ps.take i ++ (s, id, none) :: ps.drop i) → wx.grownBy w6 v.ownBlock → NewB wx v v7 → P (.returned (.bool true)) (w6.setCell ⟨g, 0, none⟩ v7) by
      intro wx w6 v7 hbx o7 g7 nb7
      have hg6 : w6.heap[g]? = some (.cells #[v] 124 (0, 0)) := by
        rw [g7.block g (Nat.lt_of_lt_of_le lg hbx.size) (fun e => hne e.symm), hbx.block g lg]
        exact HN.out.hd
      have n0 : NdAt B (w6.setCell ⟨g, 0, none⟩ v7) g v7 (ps.take i ++ (s, id, none) :: ps.drop i) :=
        ⟨node_put hg6, (Frm.set1 (F := fun k => k = g) w6 rfl 0 _).owP o7 (fun k hk e => own_ne o7 hg6 (by decide) (by rw [hk, e])), HN.out.bg⟩
      have hf : Frm F w (w6.setCell ⟨g, 0, none⟩ v7) := by
        refine Frm.setCell ((Frm.of_below hbx).trans (F1 := fun k => v.ownBlock = some k) (Frm.ofGrown g7 (fun k e => e)) ?_) (.inl ?_) 0 v7
        · intro k hk
          rw [h.foot]
          exact .inl (.inr (.inl hk))
        · rw [h.foot]; exact .inl rfl
      rw [← HP.out]
      refine .inr ⟨by rw [HT.out], rfl, Fo g v7 (fun _ => False), _, hf, ?_, ⟨v7, fun _ => False, n0, ⟨rfl, ?_, hents, hsp, ?_⟩, fun k hk => hk.elim, rfl⟩, ?_, ?_⟩
      · intro k hk
        rcases hk with hk | hk | hk
        · exact .inl (by rw [h.foot]; exact .inl hk)
        · rcases nb7 k hk with q | q
          · exact .inl (by rw [h.foot]; exact .inr (.inl q))
          · exact .inr (by have := hbx.size; omega)
        · exact hk.elim
      · intro p hp
        rcases List.mem_append.1 hp with hp | hp
        · exact hnone p (List.mem_of_mem_take hp)
        · rcases List.mem_cons.1 hp with rfl | hp
          · rfl
          · exact hnone p (List.mem_of_mem_drop hp)
      · intro e he
        rcases ePut_mem he with he | rfl
        · exact hall e he
        · exact hlo
      · rw [insert_row (by omega)]; omega
      · rw [insert_row (by omega)]; omega)
    have HI := Lib.hid (fun wx (hb : Below w.heap.size w wx) gv (hv : BoxP wx gv (s, id, none)) (hne : v.ownBlock ≠ some gv) => ins_any B wx (Nat.le_trans hbg hb.size) v ps (HN.out.below hb).own (by omega) i (by omega) (s, id, none) gv hv hne)
    have HV := Lib.hid (show ∀ k, v.ownBlock = some k → k < w.heap.size from fun k hk => (HN.out.own.lt k hk).2)
    obtain ⟨a, cap, rfl, -⟩ := h.nd.form
    have HNE := Lib.hid hne
    obtain ⟨c0, -⟩ := HN.out.cell
    clear h hP hT hput hps hall hes hsrt hle hsp hne hents hG hnone
    go_enter Tryd.func92, Tryd.ntmps92
    go_wp2_with (first | (go_at_call 67; refine HLF.out.mono ?_; rintro e w1 ⟨rfl, rfl⟩) | (go_at_call 94; refine HFD.out.mono ?_; rintro e w1 ⟨rfl, b1⟩; obtain ⟨c1, c1f⟩ := (HN.out.below b1).cell; have hsz1 := b1.size; have HB1 := Lib.hid b1; clear b1) | (go_at_call 119; refine (HI.out _ (HB1.out.alloc HB1.out.size _) w1.heap.size (heap_alloc_new w1 _) (fun e => by have := HV.out _ e; omega)).mono ?_; rintro e w6 ⟨v7, rfl, o7, g7, nb7⟩; obtain ⟨a7, m7, k7, rfl⟩ := o7.form'; obtain ⟨x6, x6f, -⟩ := head_grown (w := w1.alloc _) (g := g) (by rw [heap_alloc_old w1 _ (by omega)]; exact (HN.out.below HB1.out).hd) g7 HNE.out; have HX := Lib.hid (HFIN.out _ _ _ (HB1.out.alloc HB1.out.size _) o7 g7 nb7); clear o7 g7 nb7))
    all_goals exact HX.out

end Go.Proofs.YtmmchhlfbhbigaaDoor

namespace Go.Proofs.YtmmchhlfbhbigaaDoor
set_option maxRecDepth 100000
open Go.RowKit Go.Joins Go.ChangeShapes Go.WideShapes
set_option linter.unusedVariables false

theorem flat_mid (A C : List Kd) (c : Kd) : (A ++ c :: C).flatMap Kd.es = A.flatMap Kd.es ++ c.es ++ C.flatMap Kd.es := by simp

/-- the child in which a key belongs, and what lies around it -/
theorem Nod.at {B d : Nat} {w : World} {g : Nat} {v : Value} {G : Bl} {ks : List Kd} {lo : List Nat} (h : Nod B d w g v G ks) (hl : ks.head?.map Kd.k = some lo) {k : List Nat} (hk : ¬ klt k lo) :
    ∃ A c C, ks = A ++ c :: C ∧ chI (ents (ks.map Kd.pv)) k = (A.length : Nat) ∧ ¬ klt k c.k ∧ (∀ x ∈ C, klt k x.k) ∧ (∀ e ∈ A.flatMap Kd.es, klt e.1 k) ∧ (∀ e ∈ C.flatMap Kd.es, klt k e.1) := by
  obtain ⟨A, c, C, e, h1, h2, h3⟩ := child_split ks h.kids.srt lo k hl hk
  subst e
  have ha := around h.kids (fun x hx e he => by
    obtain ⟨v', G', hx'⟩ := h.kids.sub x (List.mem_append_right _ (List.mem_cons_of_mem _ hx))
    exact hx'.con.lo e he) h2 h3
  exact ⟨A, c, C, rfl, h1, h2, h3, ha.1, ha.2⟩

set_option maxHeartbeats 4000000 in
set_option maxRecDepth 100000 in
theorem put_node (B d : Nat) (s : ByteArray) (id : Int) (IH : ∀ (w : World) (F : Bl) (g : Nat) (lo : List Nat) (ps : List Pv) (es : List Ent), Sub B d w F g lo ps es → ps.length ≤ 8 → ¬ klt (sl s) lo →
      Calls Tryd.prog 92 #[.pointer (some ⟨g, 0, none⟩), .string s, .int .i64 id] w (PutPost B d w F g lo ps es (sl s) id))
    (w : World) (F : Bl) (g : Nat) (lo : List Nat) (ps : List Pv) (es : List Ent) (h : Sub B (d + 1) w F g lo ps es) (hn : ps.length ≤ 8) (hlo : ¬ klt (sl s) lo) :
    Calls Tryd.prog 92 #[.pointer (some ⟨g, 0, none⟩), .string s, .int .i64 id] w (PutPost B (d + 1) w F g lo ps es (sl s) id) := by
  obtain ⟨v, G, ks, nod, hsz, rfl, rfl, hl, rfl⟩ := h.nod
  obtain ⟨A, c, C, rfl, hch, hkc, hkC, hA, hC⟩ := nod.at hl hlo
  have hmid := ePl_mid (m := c.es) hA hC
  have hmidp := ePut_mid (m := c.es) (id := id) hA hC
  rw [← flat_mid] at hmid
  have hcm : c ∈ A ++ c :: C := List.mem_append_right _ (List.mem_cons_self ..)
  have hlen : A.length + 1 + C.length ≤ 8 := by simp at hn; omega
  have HLF := Lib.hid (isleaf_nod nod (by simp) (by simp; omega))
  have HCH := Lib.hid (child_any B w g v _ nod.nd nod.kids.srt (by simp; omega) s)
  rw [hch] at HCH
  have HIH := Lib.hid (fun w1 (hb : Below w.heap.size w w1) => IH w1 c.F c.g c.k c.ps c.es ((nod.kids.sub c hcm).below hb) (hsz c hcm).2 hkc)
  have hpv : ((A ++ c :: C).map Kd.pv)[A.length]? = some c.pv := by rw [List.getElem?_map, List.getElem?_append_right (Nat.le_refl _), Nat.sub_self]; rfl
  have HAT := Lib.hid (fun w1 (hb : Below w.heap.size w w1) => (nod.nd.below hb).own.at hpv)
  obtain ⟨gb, cap, rfl, k1, k2, -, -, d1, -⟩ := nod.nd.own.at hpv
  have ln : ((A ++ c :: C).map Kd.pv).length = A.length + 1 + C.length := by simp; omega
  generalize hP : PutPost B (d + 1) w (Fo g (.slice (some ⟨gb, 0, none⟩) ((A ++ c :: C).map Kd.pv).length cap) G) g lo ((A ++ c :: C).map Kd.pv) ((A ++ c :: C).flatMap Kd.es) (sl s) id = P
  have HP := Lib.hid hP
  have HM := Lib.hid hmid
  have HMP := Lib.hid hmidp
  have HND := Lib.hid nod
  have HSZ := Lib.hid hsz
  have HHL := Lib.hid hl
  have HKC := Lib.hid hkC
  have HCS := Lib.hid (hsz c hcm)
  have HLN := Lib.hid ln
  obtain ⟨a, ea⟩ : ∃ n, A.length = n := ⟨_, rfl⟩
  obtain ⟨b, eb⟩ : ∃ n, C.length = n := ⟨_, rfl⟩
  have HA := Lib.hid ea
  have HB := Lib.hid eb
  have HAT2 := Lib.hid (show ∀ w1, Below w.heap.size w w1 → w1.cell? ⟨g, 0, none⟩ = some (.slice (some ⟨gb, 0, none⟩) (a + 1 + b) cap) ∧ w1.cell? ⟨gb, a * 3 + 2, none⟩ = some (.pointer (some ⟨c.g, 0, none⟩)) by
    intro w1 hb
    obtain ⟨c0, -⟩ := (nod.nd.below hb).cell
    rw [ln, ea, eb] at c0
    obtain ⟨gb', cap', e, -, -, -, -, d1, -⟩ := HAT.out w1 hb
    injection e with e
    injection e with e
    injection e with e
    subst e
    rw [ea] at d1
    exact ⟨c0, d1⟩)
  have hk0 : (a : Int) < (a : Int) + 1 + (b : Int) := by omega
  rw [ea] at HCH hlen
  rw [eb] at hlen
  clear hP hmid hmidp nod hsz hl hkC ln ea eb HAT d1 hpv h hch hA hC hn hcm k1
  cases ht : (ePl c.es (sl s)).2 with
  | true =>
    have HPT := Lib.hid (show ∀ w1, Below w.heap.size w w1 → Calls Tryd.prog 92 #[.pointer (some ⟨c.g, 0, none⟩), .string s, .int .i64 id] w1 fun e w2 => e = .returned (.bool false) ∧ Below w1.heap.size w1 w2 by
      intro w1 hb
      refine (HIH.out w1 hb).mono ?_
      rintro e w2 (⟨-, h1, h2⟩ | ⟨h1, -⟩)
      · exact ⟨h1, h2⟩
      · rw [ht] at h1; cases h1)
    have HT := Lib.hid ht
    clear ht
    go_enter Tryd.func92, Tryd.ntmps92
    go_wp2_with (first | (go_at_call 67; refine HLF.out.mono ?_; rintro e w1 ⟨rfl, rfl⟩) | (go_at_call 96; refine HCH.out.mono ?_; rintro e w1 ⟨rfl, b1⟩; obtain ⟨z1, z2⟩ := HAT2.out _ b1; have HB1 := Lib.hid b1; clear b1) | (go_at_call 92; refine (HPT.out _ HB1.out).mono ?_; rintro e w2 ⟨rfl, b2⟩; have HB2 := Lib.hid b2; clear b2))
    rw [← HP.out]
    exact .inl ⟨by rw [HM.out]; exact HT.out, rfl, stepB HB1.out HB2.out⟩
  | false =>
    have HPF := Lib.hid (show ∀ w1, Below w.heap.size w w1 → Calls Tryd.prog 92 #[.pointer (some ⟨c.g, 0, none⟩), .string s, .int .i64 id] w1 fun e w2 => e = .returned (.bool true) ∧ ∃ (ps' : List Pv) (G2 : Bl) (c' : Kd) (a' : Option Addr) (cap' : Nat), Frm (Fo g (.slice (some ⟨gb, 0, none⟩) ((A ++ c :: C).map Kd.pv).length cap) G) w w2 ∧
          Nod B d w2 g (.slice (some ⟨gb, 0, none⟩) ((A ++ c :: C).map Kd.pv).length cap) G2 (A ++ c' :: C) ∧ New w (Fo g (.slice (some ⟨gb, 0, none⟩) ((A ++ c :: C).map Kd.pv).length cap) G) (Fo g (.slice (some ⟨gb, 0, none⟩) ((A ++ c :: C).map Kd.pv).length cap) G2) ∧
          c'.key = c.key ∧ c'.g = c.g ∧ c'.ps = ps' ∧ c'.es = ePut c.es (sl s) id ∧ 4 ≤ ps'.length ∧ ps'.length ≤ 9 ∧ w2.cell? ⟨c.g, 0, none⟩ = some (.slice a' ps'.length cap') by
      intro w1 hb
      refine (HIH.out w1 hb).mono ?_
      rintro e w2 (⟨h1, -⟩ | ⟨-, rfl, F', ps', f1, n1, s1, l1, l2⟩)
      · rw [ht] at h1; cases h1
      · obtain ⟨G2, nod2, new2⟩ := (HND.out.below hb).kid f1 n1 s1 (fun e he x hx => by
          rcases ePut_mem he with he | rfl
          · have hr := List.pairwise_append.1 HND.out.kids.rise
            exact ((List.pairwise_cons.1 hr.2.1).1 x hx).2.1 e he
          · exact HKC.out x hx)
        obtain ⟨vv, GG, ss⟩ := s1
        obtain ⟨a', cap', rfl, -⟩ := ss.nd.form
        have hcs := HCS.out
        have hcF : ∀ k, c.F k → Fo g (.slice (some ⟨gb, 0, none⟩) ((A ++ c :: C).map Kd.pv).length cap) G k := fun k hk => .inr (.inr (by rw [HND.out.kids.foot]; exact ⟨c, List.mem_append_right _ (List.mem_cons_self ..), hk⟩))
        refine ⟨rfl, ps', G2, _, a', cap', (Frm.of_below hb).trans f1 (fun k hk => .inl (hcF k hk)), nod2, ?_, rfl, rfl, rfl, rfl, by omega, by omega, ss.nd.cell.1⟩
        intro k hk
        rcases new2 k hk with q | q
        · exact .inl q
        · exact .inr (Nat.le_trans hb.size q))
    have HT := Lib.hid ht
    clear ht
    go_enter Tryd.func92, Tryd.ntmps92
    go_upto_region 11 with (first | (go_at_call 67; refine HLF.out.mono ?_; rintro e w1 ⟨rfl, rfl⟩) | (go_at_call 96; refine HCH.out.mono ?_; rintro e w1 ⟨rfl, b1⟩; obtain ⟨z1, z2⟩ := HAT2.out _ b1; have HB1 := Lib.hid b1; clear b1) | (go_at_call 92; refine (HPF.out _ HB1.out).mono ?_; rintro e w2 ⟨rfl, hx⟩; have HX := Lib.hid hx; clear hx))
    obtain ⟨ps', G2, c', a', cap', f2, nod2, new2, ck, cg, cp, ce, l1, l2, y0⟩ := HX.out
    obtain ⟨m, em⟩ : ∃ m, ps'.length = m := ⟨_, rfl⟩
    rw [em] at l1 l2 y0
    have hes : (A ++ c' :: C).flatMap Kd.es = ePut ((A ++ c :: C).flatMap Kd.es) (sl s) id := by
      rw [flat_mid, ce, flat_mid, HMP.out]
    have hhd : ((A ++ c' :: C).head?.map Kd.k) = some lo := heads HHL.out ck
    by_cases h9 : 8 < m
    · obtain rfl : m = 9 := by omega
      have HHV := Lib.hid (halve_any B d w2 g _ G2 A C c' nod2 (by rw [cp]; omega) (by rw [cp]; omega) (by simp; have := HA.out; have := HB.out; omega))
      rw [HA.out] at HHV
      have HF := Lib.hid f2
      have HNW := Lib.hid new2
      have HES := Lib.hid hes
      have HHD := Lib.hid hhd
      have HCL := Lib.hid (show c'.ps.length = 9 by rw [cp]; exact em)
      clear f2 nod2 new2 ck cg cp ce l1 l2 HX em hes hhd
      go_wp2_with (go_at_call 93; refine HHV.out.mono ?_; rintro e w3 ⟨v3, G3, x1, x2, rfl, hx⟩; have HX3 := Lib.hid hx; clear hx)
      obtain ⟨nod3, k1, k2, k3, k4, f3, new3⟩ := HX3.out
      rw [← HP.out]
      refine .inr ⟨by rw [HM.out]; exact HT.out, rfl, Fo g v3 G3, (A ++ x1 :: x2 :: C).map Kd.pv, HF.out.trans f3 HNW.out, HNW.out.trans new3 HF.out.size, ?_, ?_, ?_⟩
      · have := nod3.sub (lo := lo) (fun x hx => by
          rw [HCL.out] at k2 k3
          have hS := HSZ.out
          rcases List.mem_append.1 hx with hx | hx
          · exact hS x (List.mem_append_left _ hx)
          · rcases List.mem_cons.1 hx with rfl | hx
            · omega
            · rcases List.mem_cons.1 hx with rfl | hx
              · omega
              · exact hS x (List.mem_append_right _ (List.mem_cons_of_mem _ hx))) (heads HHD.out k1)
        rw [show (A ++ x1 :: x2 :: C).flatMap Kd.es = (A ++ c' :: C).flatMap Kd.es by simp [← k4], HES.out] at this
        exact this
      · simp only [List.length_map, List.length_append, List.length_cons]; omega
      · simp only [List.length_map, List.length_append, List.length_cons]; omega
    · have h9' : decide ((8 : Int) < (m : Int)) = false := by simp; omega
      have h9n : m ≤ 8 := by omega
      have HF := Lib.hid f2
      have HNW := Lib.hid new2
      have HND2 := Lib.hid nod2
      have HES := Lib.hid hes
      have HHD := Lib.hid hhd
      have HCL := Lib.hid (show c'.ps.length = m by rw [cp]; exact em)
      clear f2 nod2 new2 ck cg cp ce HX em hes hhd
      go_wp2_with fail
      rw [← HP.out]
      refine .inr ⟨by rw [HM.out]; exact HT.out, rfl, _, (A ++ c' :: C).map Kd.pv, HF.out, HNW.out, ?_, ?_, ?_⟩
      · have := HND2.out.sub (lo := lo) (fun x hx => by
          have hS := HSZ.out
          rcases List.mem_append.1 hx with hx | hx
          · exact hS x (List.mem_append_left _ hx)
          · rcases List.mem_cons.1 hx with rfl | hx
            · rw [HCL.out]; omega
            · exact hS x (List.mem_append_right _ (List.mem_cons_of_mem _ hx))) HHD.out
        rw [HES.out] at this
        exact this
      · simp only [List.length_map, List.length_append, List.length_cons]; omega
      · simp only [List.length_map, List.length_append, List.length_cons]; omega

theorem put_d (B : Nat) (s : ByteArray) (id : Int) : ∀ (d : Nat) (w : World) (F : Bl) (g : Nat) (lo : List Nat) (ps : List Pv) (es : List Ent), Sub B d w F g lo ps es → ps.length ≤ 8 → ¬ klt (sl s) lo →
    Calls Tryd.prog 92 #[.pointer (some ⟨g, 0, none⟩), .string s, .int .i64 id] w (PutPost B d w F g lo ps es (sl s) id)
  | 0, w, F, g, lo, ps, es, h, hn, hlo => put_leaf B w F g lo ps es h (by omega) s hlo id
  | d + 1, w, F, g, lo, ps, es, h, hn, hlo => put_node B d s id (put_d B s id d) w F g lo ps es h hn hlo

end Go.Proofs.YtmmchhlfbhbigaaDoor
