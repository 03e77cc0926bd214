/-
  A node with children; halve: a contract over the translation.
  Conditions: the node lies in memory.
-/
import Derived.Test.YtncganfjbalkgaaTr5
namespace Go.Proofs.Ytncganfjbalkgaa
open Go.RowKit Go.Joins Go.ChangeShapes Go.WideShapes
set_option linter.unusedVariables false

/-- a node with children of depth d -/
structure Nod (B d : Nat) (w : World) (g : Nat) (v : Value) (G : Bl) (ks : List Kd) : Prop where
  nd : NdAt B w g v (ks.map Kd.pv)
  kids : Kids (Sub B d) w G ks
  apart : ∀ k, G k → k ≠ g ∧ v.ownBlock ≠ some k ∧ B ≤ k ∧ k < w.heap.size
theorem node_put {w : World} {g : Nat} {v v' : Value} (h : w.heap[g]? = some (.cells #[v] 69 (0, 0))) : (w.setCell ⟨g, 0, none⟩ v').heap[g]? = some (.cells #[v'] 69 (0, 0)) := by
  rw [setCell_eq_setRow w g 0 #[v] _ _ v' h, setRow_heap w g _ _ _ _ h]
  rfl
theorem Frm.ofGrown {F : Bl} {w w1 : World} {row : Option Nat} (h : w.grownBy w1 row) (hr : ∀ k, row = some k → F k) : Frm F w w1 := ⟨h.os, h.tape, h.output, h.size, fun k hk hf => h.block k hk (fun e => hf (hr k e.symm))⟩
theorem NdAt.set {B : Nat} {w : World} {g : Nat} {v v' : Value} {ps ps' : List Pv} (h : NdAt B w g v ps) (hv : OwP w B v' ps') : NdAt B (w.setCell ⟨g, 0, none⟩ v') g v' ps' := by
  refine ⟨node_put h.hd, ?_, h.bg⟩
  exact (Frm.set1 (F := fun k => k = g) w rfl 0 v').owP hv (fun k hk e => own_ne hv h.hd (by decide) (by rw [hk, e]))

theorem head_grown {w w1 : World} {g : Nat} {row : Option Nat} {v : Value} (hd : w.heap[g]? = some (.cells #[v] 69 (0, 0))) (hg : w.grownBy w1 row) (hne : row ≠ some g) :
    w1.cell? ⟨g, 0, none⟩ = some v ∧ w1.frozen? ⟨g, 0, none⟩ = false ∧ w1.heap[g]? = some (.cells #[v] 69 (0, 0)) := by
  have h : w1.heap[g]? = some (.cells #[v] 69 (0, 0)) := (hg.block g (Array.getElem?_eq_some_iff.1 hd).1 (fun e => hne e.symm)).trans hd
  exact ⟨by rw [cell_of_block h]; rfl, unfrozen_of_block h 0, h⟩

theorem OwP.form' {w : World} {B : Nat} {v : Value} {l : List Pv} (h : OwP w B v l) : ∃ a m cap, v = .slice a m cap := by
  rcases h.cases with ⟨rfl, rfl⟩ | ⟨g, cap, cur, rfl, _⟩
  · exact ⟨_, _, _, rfl⟩
  · exact ⟨_, _, _, rfl⟩

/-- what a halved child leaves: over whatever worlds -/
theorem halve_end {B d : Nat} {w w7 : World} {g : Nat} {v v' : Value} {G : Bl} {A C : List Kd} {c : Kd} {vc vc' v2 : Value} {Gc : Bl} {gr half : Nat} {p : Pv} (h : Nod B d w g v G (A ++ c :: C)) (hc : SubOf (Cont B d) B w c.F c.g c.k c.ps c.es vc Gc)
    (h0 : 0 < half) (hp : c.ps[half]? = some p)
    (hf : Frm (fun k => k = c.g ∨ vc.ownBlock = some k ∨ k = g ∨ v.ownBlock = some k) w w7)
    (n0 : NdAt B w7 g v' ((A ++ { c with ps := c.ps.take half } :: { key := p.1, id := 0, g := gr, F := c.F, ps := c.ps.drop half, es := [] } :: C).map Kd.pv)) (n1 : NdAt B w7 c.g vc' (c.ps.take half)) (n2 : NdAt w.heap.size w7 gr v2 (c.ps.drop half))
    (b1 : vc'.ownBlock = vc.ownBlock) (b0 : ∀ k, v'.ownBlock = some k → v.ownBlock = some k ∨ (w.heap.size ≤ k ∧ k ≠ gr ∧ v2.ownBlock ≠ some k)) :
    ∃ G' c1 c2, Nod B d w7 g v' G' (A ++ c1 :: c2 :: C) ∧ c1.key = c.key ∧ c1.ps.length = c.ps.length - (c.ps.length - half) ∧ c2.ps.length = c.ps.length - half ∧ c1.es ++ c2.es = c.es ∧ New w (Fo g v G) (Fo g v' G') := by
  obtain ⟨G1, G2, es1, es2, s1, s2, s3, s4, s5, s6⟩ := hc.con.split h0 hp
  have hlt := hc.con.lo_lt h0 hp
  have hB : B ≤ w.heap.size := Nat.le_trans h.nd.bg (Nat.le_of_lt h.nd.lt)
  have hcm : c ∈ A ++ c :: C := List.mem_append_right _ (List.mem_cons_self ..)
  have hcF : ∀ k, c.F k → G k := fun k hk => by rw [h.kids.foot]; exact ⟨c, hcm, hk⟩
  have hFo : ∀ k, Fo c.g vc Gc k → c.F k := fun k hk => by rw [hc.foot]; exact hk
  have hr := List.pairwise_append.1 h.kids.rise
  have hr2 := List.pairwise_cons.1 hr.2.1
  have hl := (List.getElem?_eq_some_iff.1 hp).1
  -- what stays
  have hGc : ∀ k, Gc k → ¬ (k = c.g ∨ vc.ownBlock = some k ∨ k = g ∨ v.ownBlock = some k) := by
    intro k hk hx
    have h1 := hc.apart k hk
    have h2 := h.apart k (hcF k (hFo k (.inr (.inr hk))))
    rcases hx with hx | hx | hx | hx
    · exact h1.1 hx
    · exact h1.2.1 hx
    · exact h2.1 hx
    · exact h2.2.1 hx
  have hoth : ∀ x, x ∈ A ∨ x ∈ C → ∀ k, x.F k → ¬ (k = c.g ∨ vc.ownBlock = some k ∨ k = g ∨ v.ownBlock = some k) := by
    intro x hx k hk hy
    have hxm : x ∈ A ++ c :: C := by
      rcases hx with hx | hx
      · exact List.mem_append_left _ hx
      · exact List.mem_append_right _ (List.mem_cons_of_mem _ hx)
    have h2 := h.apart k (by rw [h.kids.foot]; exact ⟨x, hxm, hk⟩)
    have hd : ¬ c.F k := by
      rcases hx with hx | hx
      · exact (hr.2.2 x hx c (List.mem_cons_self ..)).2.2 k hk
      · exact fun hck => (hr2.1 x hx).2.2 k hck hk
    rcases hy with hy | hy | hy | hy
    · exact hd (hFo k (.inl hy))
    · exact hd (hFo k (.inr (.inl hy)))
    · exact h2.1 hy
    · exact h2.2.1 hy
  have hw : ∀ x, x ∈ A ∨ x ∈ C → Sub B d w7 x.F x.g x.k x.ps x.es := by
    intro x hx
    refine (h.kids.sub x ?_).step hf (hoth x hx)
    rcases hx with hx | hx
    · exact List.mem_append_left _ hx
    · exact List.mem_append_right _ (List.mem_cons_of_mem _ hx)
  obtain ⟨c1, hc1⟩ : ∃ c1 : Kd, c1 = { c with ps := c.ps.take half, F := Fo c.g vc' G1, es := es1 } := ⟨_, rfl⟩
  obtain ⟨c2, hc2⟩ : ∃ c2 : Kd, c2 = { key := p.1, id := 0, g := gr, F := Fo gr v2 G2, ps := c.ps.drop half, es := es2 } := ⟨_, rfl⟩
  have f1 : ∀ k, c1.F k → c.F k := by
    intro k hk
    rw [hc1] at hk
    rcases hk with hk | hk | hk
    · exact hFo k (.inl hk)
    · exact hFo k (.inr (.inl (by rw [← b1]; exact hk)))
    · exact hFo k (.inr (.inr (s4 k hk).1))
  have f2 : ∀ k, c2.F k → w.heap.size ≤ k ∨ (Gc k ∧ c.F k) := by
    intro k hk
    rw [hc2] at hk
    rcases hk with rfl | hk | hk
    · exact .inl n2.bg
    · exact .inl (n2.own.lt k hk).1
    · exact .inr ⟨s5 k hk, hFo k (.inr (.inr (s5 k hk)))⟩
  have f2' : ∀ k, c2.F k → k < w7.heap.size := by
    intro k hk
    rw [hc2] at hk
    rcases hk with rfl | hk | hk
    · exact n2.lt
    · exact (n2.own.lt k hk).2
    · exact Nat.lt_of_lt_of_le (hc.apart k (s5 k hk)).2.2.2 hf.size
  have hclt : ∀ k, c.F k → k < w.heap.size := fun k hk => (h.apart k (hcF k hk)).2.2.2
  have u1 : Sub B d w7 c1.F c1.g c1.k c1.ps c1.es := by
    subst hc1
    refine ⟨vc', G1, n1, s1.step hf (fun k hk => hGc k (s4 k hk).1), fun k hk => ?_, rfl⟩
    have := hc.apart k (s4 k hk).1
    rw [b1]
    exact ⟨this.1, this.2.1, this.2.2.1, Nat.lt_of_lt_of_le this.2.2.2 hf.size⟩
  have u2 : Sub B d w7 c2.F c2.g c2.k c2.ps c2.es := by
    subst hc2
    refine ⟨v2, G2, ⟨n2.hd, n2.own.le hB, Nat.le_trans hB n2.bg⟩, s2.step hf (fun k hk => hGc k (s5 k hk)), fun k hk => ?_, rfl⟩
    have := hc.apart k (s5 k hk)
    refine ⟨fun e => ?_, fun e => ?_, this.2.2.1, Nat.lt_of_lt_of_le this.2.2.2 hf.size⟩
    · have e' : k = gr := e
      have := n2.bg; omega
    · have := (n2.own.lt k e).1; omega
  have hdis : ∀ k, c1.F k → ¬ c2.F k := by
    intro k h1 h2
    have hk := hclt k (f1 k h1)
    rw [hc1] at h1
    rw [hc2] at h2
    rcases h2 with h2 | h2 | h2
    · have := n2.bg; omega
    · have := (n2.own.lt k h2).1; omega
    · rcases h1 with h1 | h1 | h1
      · exact (hc.apart k (s5 k h2)).1 h1
      · exact (hc.apart k (s5 k h2)).2.1 (by rw [← b1]; exact h1)
      · exact (s4 k h1).2 h2
  have e1 : c1.k = c.k := by rw [hc1]
  have e2 : c2.k = sl p.1 := by rw [hc2]
  have hes : c1.es ++ c2.es = c.es := by rw [hc1, hc2]; exact s3.symm
  have hs1 : ∀ e ∈ c1.es, e ∈ c.es := fun e he => by rw [← hes]; exact List.mem_append_left _ he
  have hs2 : ∀ e ∈ c2.es, e ∈ c.es := fun e he => by rw [← hes]; exact List.mem_append_right _ he
  have hpC : ∀ x ∈ C, klt (sl p.1) x.k := by
    intro x hx
    have hne := s2.ne (by rw [drop_cons hp]; simp)
    cases he : es2 with
    | nil => exact absurd he hne
    | cons e r =>
      have hm : e ∈ es2 := by rw [he]; exact List.mem_cons_self ..
      exact klt_of_not (s2.lo e hm) ((hr2.1 x hx).2.1 e (by rw [s3]; exact List.mem_append_right _ hm))
  refine ⟨fun k => ∃ x ∈ A ++ c1 :: c2 :: C, x.F k, c1, c2, ⟨?_, ⟨?_, ?_, rfl⟩, ?_⟩, by rw [hc1], by rw [hc1]; simp only [List.length_take]; omega, by rw [hc2]; simp only [List.length_drop], hes, ?_⟩
  · rw [hc1, hc2]
    simpa [Kd.pv] using n0
  · intro x hx
    rcases List.mem_append.1 hx with hx | hx
    · exact hw x (.inl hx)
    · rcases List.mem_cons.1 hx with rfl | hx
      · exact u1
      · rcases List.mem_cons.1 hx with rfl | hx
        · exact u2
        · exact hw x (.inr hx)
  · refine List.pairwise_append.2 ⟨hr.1, List.pairwise_cons.2 ⟨fun x hx => ?_, List.pairwise_cons.2 ⟨fun x hx => ?_, hr2.2⟩⟩, fun a ha x hx => ?_⟩
    · rcases List.mem_cons.1 hx with rfl | hx
      · exact ⟨by rw [e1, e2]; exact hlt, fun e he => by rw [e2]; rw [hc1] at he; exact s6 e he, hdis⟩
      · exact ⟨by rw [e1]; exact (hr2.1 x hx).1, fun e he => (hr2.1 x hx).2.1 e (hs1 e he), fun k hk => (hr2.1 x hx).2.2 k (f1 k hk)⟩
    · refine ⟨by rw [e2]; exact hpC x hx, fun e he => (hr2.1 x hx).2.1 e (hs2 e he), fun k hk => ?_⟩
      rcases f2 k hk with h1 | h1
      · intro hxk
        have := (h.apart k (by rw [h.kids.foot]; exact ⟨x, List.mem_append_right _ (List.mem_cons_of_mem _ hx), hxk⟩)).2.2.2
        omega
      · exact (hr2.1 x hx).2.2 k h1.2
    · have hac := hr.2.2 a ha c (List.mem_cons_self ..)
      rcases List.mem_cons.1 hx with rfl | hx
      · exact ⟨by rw [e1]; exact hac.1, fun e he => by rw [e1]; exact hac.2.1 e he, fun k hk hx => hac.2.2 k hk (f1 k hx)⟩
      · rcases List.mem_cons.1 hx with rfl | hx
        · refine ⟨by rw [e2]; exact klt_trans hac.1 hlt, fun e he => by rw [e2]; exact klt_trans (hac.2.1 e he) hlt, fun k hk hx => ?_⟩
          rcases f2 k hx with h1 | h1
          · have := (h.apart k (by rw [h.kids.foot]; exact ⟨a, List.mem_append_left _ ha, hk⟩)).2.2.2
            omega
          · exact hac.2.2 k hk h1.2
        · exact hr.2.2 a ha x (List.mem_cons_of_mem _ hx)
  · rintro k ⟨x, hx, hxk⟩
    have old : ∀ k, G k → k ≠ g ∧ v'.ownBlock ≠ some k ∧ B ≤ k ∧ k < w7.heap.size := by
      intro k hk
      obtain ⟨q1, q2, q3, q4⟩ := h.apart k hk
      refine ⟨q1, fun e => ?_, q3, Nat.lt_of_lt_of_le q4 hf.size⟩
      rcases b0 k e with h1 | h1
      · exact q2 h1
      · omega
    rcases List.mem_append.1 hx with hx | hx
    · exact old k (by rw [h.kids.foot]; exact ⟨x, List.mem_append_left _ hx, hxk⟩)
    · rcases List.mem_cons.1 hx with rfl | hx
      · exact old k (hcF k (f1 k hxk))
      · rcases List.mem_cons.1 hx with rfl | hx
        · rcases f2 k hxk with h1 | h1
          · refine ⟨fun e => ?_, fun e => ?_, by omega, f2' k hxk⟩
            · have := h.nd.lt; omega
            · rcases b0 k e with h2 | h2
              · have := (h.nd.own.lt k h2).2; omega
              · rw [hc2] at hxk
                rcases hxk with hxk | hxk | hxk
                · exact h2.2.1 hxk
                · exact h2.2.2 hxk
                · have := (hc.apart k (s5 k hxk)).2.2.2; omega
          · exact old k (hcF k h1.2)
        · exact old k (by rw [h.kids.foot]; exact ⟨x, List.mem_append_right _ (List.mem_cons_of_mem _ hx), hxk⟩)
  · intro k hk
    rcases hk with hk | hk | ⟨x, hx, hxk⟩
    · exact .inl (.inl hk)
    · rcases b0 k hk with h1 | h1
      · exact .inl (.inr (.inl h1))
      · exact .inr h1.1
    · rcases List.mem_append.1 hx with hx | hx
      · exact .inl (.inr (.inr (by rw [h.kids.foot]; exact ⟨x, List.mem_append_left _ hx, hxk⟩)))
      · rcases List.mem_cons.1 hx with rfl | hx
        · exact .inl (.inr (.inr (hcF k (f1 k hxk))))
        · rcases List.mem_cons.1 hx with rfl | hx
          · rcases f2 k hxk with h1 | h1
            · exact .inr h1
            · exact .inl (.inr (.inr (hcF k h1.2)))
          · exact .inl (.inr (.inr (by rw [h.kids.foot]; exact ⟨x, List.mem_append_right _ (List.mem_cons_of_mem _ hx), hxk⟩)))

set_option maxHeartbeats 4000000 in
set_option maxRecDepth 100000 in
theorem halve_any (B d : Nat) (w : World) (g : Nat) (v : Value) (G : Bl) (A C : List Kd) (c : Kd) (h : Nod B d w g v G (A ++ c :: C)) (h2 : 2 ≤ c.ps.length) (hsz : c.ps.length ≤ 2147483648) (hn : (A ++ c :: C).length ≤ 2147483648) :
    Calls Try.prog 33 #[.pointer (some ⟨g, 0, none⟩), .int .i64 (A.length : Nat)] w fun e w' => ∃ v' G' c1 c2, e = .returned (.tuple #[]) ∧ Nod B d w' g v' G' (A ++ c1 :: c2 :: C) ∧ c1.key = c.key ∧
      c1.ps.length = c.ps.length - (c.ps.length - c.ps.length / 2) ∧ c2.ps.length = c.ps.length - c.ps.length / 2 ∧ c1.es ++ c2.es = c.es ∧ Frm (Fo g v G) w w' ∧ New w (Fo g v G) (Fo g v' G') := by
  generalize hP : (fun (e : Ending) (w' : World) => ∃ v' G' c1 c2, e = .returned (.tuple #[]) ∧ Nod B d w' g v' G' (A ++ c1 :: c2 :: C) ∧ c1.key = c.key ∧
      c1.ps.length = c.ps.length - (c.ps.length - c.ps.length / 2) ∧ c2.ps.length = c.ps.length - c.ps.length / 2 ∧ c1.es ++ c2.es = c.es ∧ Frm (Fo g v G) w w' ∧ New w (Fo g v G) (Fo g v' G')) = P
  obtain ⟨vc, Gc, hc⟩ := h.kids.sub c (List.mem_append_right _ (List.mem_cons_self ..))
  obtain ⟨half, hhalf⟩ : ∃ m, c.ps.length / 2 = m := ⟨_, rfl⟩
  have hl : half < c.ps.length := by omega
  have hp : c.ps[half]? = some (c.ps[half]'hl) := List.getElem?_eq_getElem _
  generalize c.ps[half]'hl = p at *
  have hpv : ((A ++ c :: C).map Kd.pv)[A.length]? = some c.pv := by rw [List.getElem?_map, List.getElem?_append_right (Nat.le_refl _), Nat.sub_self]; rfl
  obtain ⟨gb, cap, rfl, k1, k2, -, -, d2, -⟩ := h.nd.own.at hpv
  obtain ⟨gc, cac, rfl, m1, m2, -, -, -, -⟩ := hc.nd.own.at hp
  obtain ⟨c0, -⟩ := h.nd.cell
  obtain ⟨x0, -⟩ := hc.nd.cell
  simp only [Kd.pv, kp, Option.map_some] at d2
  have ln : ((A ++ c :: C).map Kd.pv).length = A.length + 1 + C.length := by simp; omega
  obtain ⟨n, en⟩ : ∃ n, c.ps.length = n := ⟨_, rfl⟩
  obtain ⟨a, ea⟩ : ∃ n, A.length = n := ⟨_, rfl⟩
  obtain ⟨b, eb⟩ : ∃ n, C.length = n := ⟨_, rfl⟩
  have hn' : a + 1 + b ≤ 2147483648 := by simp at hn; omega
  rw [ln] at c0 k1
  rw [en] at x0 m1 hl h2 hsz hhalf
  rw [ea] at c0 k1 d2 ⊢
  rw [eb] at c0 k1
  have H := Lib.hid h
  have hdl : (c.ps.drop half).length = n - half := by rw [List.length_drop, en]
  have HCL := Lib.hid (clone_any w gc (half * 3) (n - half) (cac - half) (c.ps.drop half) hdl (hc.nd.own.from half) (by omega))
  have HC := Lib.hid hc
  have HE := Lib.hid en
  have HDL := Lib.hid hdl
  have hcm : c ∈ A ++ c :: C := List.mem_append_right _ (List.mem_cons_self ..)
  have hcg : c.F c.g := by rw [hc.foot]; exact .inl rfl
  have hcgc : c.F gc := by rw [hc.foot]; exact .inr (.inl rfl)
  have hA := fun k hk => h.apart k (by rw [h.kids.foot]; exact ⟨c, hcm, hk⟩)
  have ne1 : ¬ c.g = g := (hA _ hcg).1
  have ne2 : ¬ gb = c.g := fun e => (hA _ hcg).2.1 (by rw [e]; rfl)
  have ne3 : ¬ gc = g := (hA _ hcgc).1
  have ne4 : ¬ gb = gc := fun e => (hA _ hcgc).2.1 (by rw [e]; rfl)
  have ne5 : ¬ gc = c.g := fun e => hc.nd.ne (by rw [e]; rfl)
  have ne6 : ¬ gb = g := fun e => h.nd.ne (by rw [e]; rfl)
  have lg : g < w.heap.size := h.nd.lt
  have lc : c.g < w.heap.size := hc.nd.lt
  have lgc : gc < w.heap.size := (hc.nd.own.lt gc rfl).2
  have lgb : gb < w.heap.size := (h.nd.own.lt gb rfl).2
  have hk0 : (a : Int) < (a : Int) + 1 + (b : Int) := by omega
  have hk1 : half ≤ n := by omega
  have hk2 : ¬ cac = half := by omega
  have hh2 : ((n : Int) / 2) = (half : Int) := by omega
  have hh3 : (n : Int).tdiv 2 = (half : Int) := by rw [Int.tdiv_eq_ediv_of_nonneg (by omega)]; exact hh2
  have HP := Lib.hid hP
  have HA := Lib.hid ea
  have HB9 := Lib.hid eb
  have HHH := Lib.hid hhalf
  have HPP := Lib.hid hp
  have HP0 := Lib.hid (show (c.ps.drop half)[0]? = some p by rw [List.getElem?_drop, Nat.add_zero]; exact hp)
  clear h hc hdl hcm hcg hcgc hA hP ea eb hpv ln en hn hhalf hp
  go_enter Try.func33, Try.ntmps33
  go_wp2_with (first | (go_at_call 44; refine HCL.out.mono ?_; rintro e w1 ⟨v2, rfl, o2, b1⟩; obtain ⟨g2, cp2, rfl, q1, -, z0, -⟩ := o2.at HP0.out; rw [HDL.out] at o2 q1 ⊢; have HO2 := Lib.hid o2; clear z0; have HB1 := Lib.hid b1; clear o2 b1))
  obtain ⟨gr, hgr⟩ : ∃ gr, w1.heap.size = gr := ⟨_, rfl⟩
  obtain ⟨w2, hW2⟩ : ∃ w2, w1.alloc (.cells #[.slice (some ⟨g2, 0, none⟩) (n - half) cp2] 69) = w2 := ⟨_, rfl⟩
  rw [hW2, hgr]
  have b2 : Below w.heap.size w w2 := by rw [← hW2]; exact HB1.out.alloc HB1.out.size _
  have n2 : NdAt w.heap.size w2 gr (.slice (some ⟨g2, 0, none⟩) (n - half) cp2) (c.ps.drop half) := by
    rw [← hW2, ← hgr]
    refine ⟨heap_alloc_new w1 _, ?_, HB1.out.size⟩
    exact HO2.out.alloc _
  have lg2 := (HO2.out.lt g2 rfl)
  rw [hgr] at lg2
  have lw1 : w.heap.size ≤ gr := by rw [← hgr]; exact HB1.out.size
  have lw2 : gr < w2.heap.size := n2.lt
  have N2 := Lib.hid n2
  have B2 := Lib.hid b2
  obtain ⟨x2, x2f⟩ := (HC.out.nd.below b2).cell
  rw [HE.out] at x2
  have HD := Lib.hid (del_any B w2.drew (.slice (some ⟨gc, 0, none⟩) c.ps.length cac) c.ps (HC.out.nd.below b2).own (by rw [HE.out]; omega) half n hl (by rw [HE.out]; exact Nat.le_refl _))
  rw [HE.out] at HD
  have NN := Lib.hid (HC.out.nd.below b2)
  clear hW2 hgr b2 n2 HB1 HO2
  have NG := Lib.hid (H.out.nd.below B2.out)
  go_upto_region 3 with fail
  go_cut [4] (fun q wx => q = .pointer (some ⟨c.g, 0, none⟩) ∧ ∃ w3 a3 m3 k3, wx = World.setCell w3 ⟨c.g, 0, none⟩ (.slice a3 m3 k3) ∧ OwP w3 B (.slice a3 m3 k3) (c.ps.take half ++ c.ps.drop n) ∧ (Value.slice a3 m3 k3).ownBlock = some gc ∧ w2.drew.grownBy w3 (some gc))
  case first =>
    go_region_with (go_at_call 45; refine HD.out.mono ?_; rintro e w3 ⟨v3, rfl, o3, q3, g3⟩; obtain ⟨a3, m3, k3, rfl⟩ := o3.form'; obtain ⟨x3, x3f, -⟩ := head_grown (w := w2.drew) NN.out.hd g3 (by simp [Value.ownBlock]; exact ne5); have HX := Lib.hid (show ∃ w3' a3' m3' k3', w3.setCell ⟨c.g, 0, none⟩ (.slice a3 m3 k3) = World.setCell w3' ⟨c.g, 0, none⟩ (.slice a3' m3' k3') ∧ OwP w3' B (.slice a3' m3' k3') (c.ps.take half ++ c.ps.drop n) ∧ (Value.slice a3' m3' k3').ownBlock = some gc ∧ w2.drew.grownBy w3' (some gc) from ⟨w3, a3, m3, k3, rfl, o3, q3, g3⟩); clear g3 o3 q3)
    all_goals
      go_wp2_with fail
      go_meet
      exact ⟨rfl, HX.out⟩
  case rest =>
    obtain ⟨rfl, w3, a3, m3, k3, hwc, o3, q3, g3⟩ := hcut
    -- the world behind the store
    have hn0 := HC.out.nd
    have f23 : Frm (fun k => k = gc) w2 w3 := ⟨g3.os, g3.tape, g3.output, g3.size, fun k hk hf => g3.block k hk (fun e => hf (by injection e))⟩
    have n3 : NdAt B w3 c.g (.slice (some ⟨gc, 0, none⟩) c.ps.length cac) c.ps ∨ True := .inr trivial
    have h3 : w3.heap[c.g]? = some (.cells #[.slice (some ⟨gc, 0, none⟩) c.ps.length cac] 69 (0, 0)) := (f23.heap (Nat.lt_of_lt_of_le lc B2.out.size) (fun e => ne5 e.symm)).trans (NN.out.hd)
    have o3' : OwP w3 B (.slice a3 m3 k3) (c.ps.take half) := by
      rw [List.drop_eq_nil_of_le (by rw [HE.out]; exact Nat.le_refl _), List.append_nil] at o3; exact o3
    have n4 : NdAt B wc c.g (.slice a3 m3 k3) (c.ps.take half) := by
      rw [hwc]
      refine ⟨node_put h3, ?_, hn0.bg⟩
      exact (Frm.set1 (F := fun k => k = c.g) w3 rfl 0 _).owP o3' (fun k hk e => own_ne o3' h3 (by decide) (by rw [hk, e]))
    have f24 : Frm (fun k => k = gc ∨ k = c.g) w2 wc := by
      rw [hwc]
      exact (f23.mono (fun k hk => .inl hk)).setCell (.inl (.inr rfl)) 0 _
    have ng4 := NG.out.step f24 (by rintro (e | e); exact ne3 e.symm; exact ne1 e.symm) (by
      intro k hk
      simp only [Value.ownBlock, Option.some.injEq] at hk
      subst hk
      rintro (e | e)
      · exact ne4 e
      · exact ne2 e)
    have nr4 := N2.out.step f24 (by rintro (e | e) <;> omega) (by
      intro k hk
      simp only [Value.ownBlock, Option.some.injEq] at hk
      subst hk
      rintro (e | e) <;> omega)
    have l4 : w2.heap.size ≤ wc.heap.size := f24.size
    obtain ⟨y0, y0f⟩ := ng4.cell
    obtain ⟨y1, y1f⟩ := nr4.cell
    obtain ⟨_, _, e5, -, -, y2, -, -, -⟩ := nr4.own.at (i := 0) (p := p) HP0.out
    injection e5 with e5 e6 e7
    injection e5 with e5
    injection e5 with e5
    subst e5
    clear e6 e7
    have ln : ((A ++ c :: C).map Kd.pv).length = a + 1 + b := by have := HA.out; have := HB9.out; simp; omega
    rw [ln] at y0
    have z1 : g < wc.heap.size := ng4.lt
    have z2 : gr < wc.heap.size := nr4.lt
    have z3 : g2 < wc.heap.size := (nr4.own.lt g2 rfl).2
    have hBw : B ≤ wc.heap.size := by have := ng4.bg; omega
    have HI := Lib.hid (fun wx (hb : Below wc.heap.size wc wx) gv (hv : BoxP wx gv (p.1, 0, some gr)) (hne : gb ≠ gv) => by
      have := ins_any B wx (Nat.le_trans hBw hb.size) (.slice (some ⟨gb, 0, none⟩) ((A ++ c :: C).map Kd.pv).length cap) ((A ++ c :: C).map Kd.pv) (ng4.below hb).own (by rw [ln]; omega) (a + 1) (by rw [ln]; omega) (p.1, 0, some gr) gv hv (by simp [Value.ownBlock]; exact hne)
      rw [ln, show ((a + 1 : Nat) : Int) = (a : Int) + 1 by omega] at this
      exact this)
    have lists : ((A ++ c :: C).map Kd.pv).take (a + 1) ++ (p.1, (0 : Int), some gr) :: ((A ++ c :: C).map Kd.pv).drop (a + 1) = (A ++ { c with ps := c.ps.take half } :: { key := p.1, id := 0, g := gr, F := c.F, ps := c.ps.drop half, es := [] } :: C).map Kd.pv := by
      have e1 : (A ++ c :: C).map Kd.pv = (A ++ [c]).map Kd.pv ++ C.map Kd.pv := by simp
      have e2 : a + 1 = ((A ++ [c]).map Kd.pv).length := by simp; exact HA.out.symm
      rw [e1, e2, List.take_left, List.drop_left]
      simp [Kd.pv]
    have hg4 := ng4.hd
    have HFIN := Lib.hid (show ∀ wx w6 v7, Below wc.heap.size wc wx → OwP w6 B v7 (((A ++ c :: C).map Kd.pv).take (a + 1) ++ (p.1, (0 : Int), some gr) :: ((A ++ c :: C).map Kd.pv).drop (a + 1)) → wx.grownBy w6 (some gb) → NewB wx (.slice (some ⟨gb, 0, none⟩) (a + 1 + b) cap) v7 → P (.returned (.tuple #[])) (w6.setCell ⟨g, 0, none⟩ v7) by
      intro wx w6 v7 hbx o7 g7 nb7
      have f6 : Frm (fun k => k = gb ∨ k = g) wc w6 := (Frm.of_below hbx).trans (F1 := fun k => k = gb ∨ k = g) (Frm.ofGrown g7 (fun k e => .inl (by injection e with e; exact e.symm))) (New.refl _ _)
      have f7 : Frm (fun k => k = gb ∨ k = g) wc (w6.setCell ⟨g, 0, none⟩ v7) := f6.setCell (.inl (.inr rfl)) 0 v7
      have hg6 : w6.heap[g]? = some (.cells #[.slice (some ⟨gb, 0, none⟩) ((A ++ c :: C).map Kd.pv).length cap] 69 (0, 0)) := by
        rw [g7.block g (Nat.lt_of_lt_of_le z1 hbx.size) (fun e => ne6 (by injection e with e; exact e.symm)), hbx.block g z1]
        exact hg4
      have n0 : NdAt B (w6.setCell ⟨g, 0, none⟩ v7) g v7 ((A ++ { c with ps := c.ps.take half } :: { key := p.1, id := 0, g := gr, F := c.F, ps := c.ps.drop half, es := [] } :: C).map Kd.pv) := by
        rw [← lists]
        refine ⟨node_put hg6, ?_, ng4.bg⟩
        exact (Frm.set1 (F := fun k => k = g) w6 rfl 0 _).owP o7 (fun k hk e => own_ne o7 hg6 (by decide) (by rw [hk, e]))
      have n1 := n4.step f7 (by rintro (e | e); exact ne2 e.symm; exact ne1 e) (by
        intro k hk
        rw [q3] at hk
        injection hk with hk
        subst hk
        rintro (e | e)
        · exact ne4 e.symm
        · exact ne3 e)
      have n2 := nr4.step f7 (by rintro (e | e) <;> omega) (by
        intro k hk
        simp only [Value.ownBlock, Option.some.injEq] at hk
        subst hk
        rintro (e | e) <;> omega)
      have hf : Frm (fun k => k = c.g ∨ (Value.slice (some ⟨gc, 0, none⟩) c.ps.length cac).ownBlock = some k ∨ k = g ∨ (Value.slice (some ⟨gb, 0, none⟩) ((A ++ c :: C).map Kd.pv).length cap).ownBlock = some k) w (w6.setCell ⟨g, 0, none⟩ v7) := by
        refine ((Frm.of_below B2.out).trans (F1 := fun k => k = gc ∨ k = c.g) f24 ?_).trans f7 ?_
        · rintro k (rfl | rfl)
          · exact .inl (.inr (.inl rfl))
          · exact .inl (.inl rfl)
        · rintro k (rfl | rfl)
          · exact .inl (.inr (.inr (.inr rfl)))
          · exact .inl (.inr (.inr (.inl rfl)))
      obtain ⟨G', c1, c2, r1, r2, r3, r4, r5, r6⟩ := halve_end (half := half) (p := p) (vc' := .slice a3 m3 k3) H.out HC.out (by have := HHH.out; omega) HPP.out hf n0 n1 n2 q3 (by
        intro k hk
        rcases nb7 k hk with h | h
        · exact .inl h
        · have := hbx.size
          refine .inr ⟨by omega, by omega, fun e => ?_⟩
          simp only [Value.ownBlock, Option.some.injEq] at e
          omega)
      rw [← HP.out]
      refine ⟨v7, G', c1, c2, rfl, r1, r2, by have := HHH.out; have := HE.out; rw [HE.out] at r3 ⊢; omega, by have := HHH.out; have := HE.out; rw [HE.out] at r4 ⊢; omega, r5, hf.mono ?_, r6⟩
      have hin : ∀ k, c.F k → G k := fun k hk => by rw [H.out.kids.foot]; exact ⟨c, List.mem_append_right _ (List.mem_cons_self ..), hk⟩
      have hcf : ∀ k, Fo c.g (.slice (some ⟨gc, 0, none⟩) c.ps.length cac) Gc k → c.F k := fun k hk => by rw [HC.out.foot]; exact hk
      rintro k (rfl | hk | rfl | hk)
      · exact .inr (.inr (hin _ (hcf _ (.inl rfl))))
      · exact .inr (.inr (hin _ (hcf _ (.inr (.inl hk)))))
      · exact .inl rfl
      · exact .inr (.inl hk))
    have hwr : IntKind.i64.wrap ((a : Int) + 1) = (a : Int) + 1 := IntWalk.i64_in _ (by omega)
    have z4 : gb < wc.heap.size := (ng4.own.lt gb rfl).2
    have HG4 := Lib.hid ng4.hd
    have z5 : 0 < n - half := by omega
    clear hn0 f23 n3 h3 o3 o3' g3 ln lists f24 ng4 nr4 n4 hwc q3 hg4
    go_wp2_with fail
    go_region_with (go_at_call 42; refine (HI.out _ (((Below.refl _ _).drew).alloc (Nat.le_refl _) _) wc.heap.size (heap_alloc_new wc.drew _) (by omega)).mono ?_; rintro e w6 ⟨v7, rfl, o7, g7, nb7⟩; obtain ⟨a7, m7, k7, rfl⟩ := o7.form'; obtain ⟨x6, x6f, -⟩ := head_grown (w := wc.drew.alloc _) (g := g) (by rw [heap_alloc_old wc.drew _ z1]; exact HG4.out) g7 (by simp [Value.ownBlock]; exact ne6); have HX := Lib.hid (HFIN.out _ _ _ (((Below.refl _ _).drew).alloc (Nat.le_refl _) _) o7 g7 nb7); clear o7 g7 nb7)
    all_goals
      go_wp2_with fail
      exact bodyPost_ret (v := .tuple #[]) (by simp [results, Try.results33, go_sem]) rfl HX.out

end Go.Proofs.Ytncganfjbalkgaa
