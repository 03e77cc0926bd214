/-
  join of two children beside each other: a contract over the translation.
  Conditions: the node lies in memory.
-/
import Derived.Test.YtncganfjbalkgaaTr6
import Derived.Deep.QuietTactic
import Derived.BigQuiet
namespace Go.Proofs.Ytncganfjbalkgaa
open Go.RowKit Go.Joins Go.ChangeShapes Go.WideShapes
set_option linter.unusedVariables false
set_option linter.unusedSimpArgs false

theorem join_end {B d : Nat} {w w7 : World} {g : Nat} {v v' : Value} {G : Bl} {A C : List Kd} {c1 c2 : Kd} {v1 v1' v2 : Value} {G1 G2 : Bl} (h : Nod B d w g v G (A ++ c1 :: c2 :: C)) (hc : SubOf (Cont B d) B w c1.F c1.g c1.k c1.ps c1.es v1 G1) (hc2 : SubOf (Cont B d) B w c2.F c2.g c2.k c2.ps c2.es v2 G2)
    (hne : c1.ps ≠ [])
    (hf : Frm (fun k => k = c1.g ∨ v1.ownBlock = some k ∨ k = g ∨ v.ownBlock = some k) w w7)
    (n0 : NdAt B w7 g v' ((A ++ c1 :: C).map Kd.pv)) (n1 : NdAt B w7 c1.g v1' (c1.ps ++ c2.ps))
    (b1 : ∀ k, v1'.ownBlock = some k → v1.ownBlock = some k ∨ w.heap.size ≤ k) (b0 : v'.ownBlock = v.ownBlock) :
    ∃ G' c, Nod B d w7 g v' G' (A ++ c :: C) ∧ c.key = c1.key ∧ c.ps = c1.ps ++ c2.ps ∧ c.es = c1.es ++ c2.es ∧ New w (Fo g v G) (Fo g v' G') := by
  have hr := List.pairwise_append.1 h.kids.rise
  have hr2 := List.pairwise_cons.1 hr.2.1
  have hr3 := List.pairwise_cons.1 hr2.2
  have h12 := hr2.1 c2 (List.mem_cons_self ..)
  have m1 : c1 ∈ A ++ c1 :: c2 :: C := List.mem_append_right _ (List.mem_cons_self ..)
  have m2 : c2 ∈ A ++ c1 :: c2 :: C := List.mem_append_right _ (List.mem_cons_of_mem _ (List.mem_cons_self ..))
  have mo : ∀ x, x ∈ A ∨ x ∈ C → x ∈ A ++ c1 :: c2 :: C := by
    rintro x (hx | hx)
    · exact List.mem_append_left _ hx
    · exact List.mem_append_right _ (List.mem_cons_of_mem _ (List.mem_cons_of_mem _ hx))
  have inG : ∀ x ∈ A ++ c1 :: c2 :: C, ∀ k, x.F k → G k := fun x hx k hk => by rw [h.kids.foot]; exact ⟨x, hx, hk⟩
  have hF1 : ∀ k, Fo c1.g v1 G1 k → c1.F k := fun k hk => by rw [hc.foot]; exact hk
  have hF2 : ∀ k, Fo c2.g v2 G2 k → c2.F k := fun k hk => by rw [hc2.foot]; exact hk
  have hB : B ≤ w.heap.size := Nat.le_trans h.nd.bg (Nat.le_of_lt h.nd.lt)
  have hGd : ∀ k, G1 k → ¬ G2 k := fun k h1 h2 => h12.2.2 k (hF1 k (.inr (.inr h1))) (hF2 k (.inr (.inr h2)))
  have hcj := hc.con.join hc2.con hne hGd h12.2.1 (klt_asym h12.1)
  have st : ∀ k, G1 k ∨ G2 k → ¬ (k = c1.g ∨ v1.ownBlock = some k ∨ k = g ∨ v.ownBlock = some k) := by
    rintro k (hk | hk) hx
    · have q1 := hc.apart k hk
      have q2 := h.apart k (inG c1 m1 k (hF1 k (.inr (.inr hk))))
      rcases hx with hx | hx | hx | hx
      · exact q1.1 hx
      · exact q1.2.1 hx
      · exact q2.1 hx
      · exact q2.2.1 hx
    · have q2 := h.apart k (inG c2 m2 k (hF2 k (.inr (.inr hk))))
      have q3 : ¬ c1.F k := fun e => h12.2.2 k e (hF2 k (.inr (.inr hk)))
      rcases hx with hx | hx | hx | hx
      · exact q3 (hF1 k (.inl hx))
      · exact q3 (hF1 k (.inr (.inl hx)))
      · exact q2.1 hx
      · exact q2.2.1 hx
  have hoth : ∀ x, x ∈ A ∨ x ∈ C → ∀ k, x.F k → ¬ (k = c1.g ∨ v1.ownBlock = some k ∨ k = g ∨ v.ownBlock = some k) := by
    intro x hx k hk hy
    have q2 := h.apart k (inG x (mo x hx) k hk)
    have hd : ¬ c1.F k := by
      rcases hx with hx | hx
      · exact (hr.2.2 x hx c1 (List.mem_cons_self ..)).2.2 k hk
      · exact fun hck => (hr2.1 x (List.mem_cons_of_mem _ hx)).2.2 k hck hk
    rcases hy with hy | hy | hy | hy
    · exact hd (hF1 k (.inl hy))
    · exact hd (hF1 k (.inr (.inl hy)))
    · exact q2.1 hy
    · exact q2.2.1 hy
  have hw : ∀ x, x ∈ A ∨ x ∈ C → Sub B d w7 x.F x.g x.k x.ps x.es := fun x hx => (h.kids.sub x (mo x hx)).step hf (hoth x hx)
  obtain ⟨c, hcc⟩ : ∃ c : Kd, c = { c1 with ps := c1.ps ++ c2.ps, F := Fo c1.g v1' (fun k => G1 k ∨ G2 k), es := c1.es ++ c2.es } := ⟨_, rfl⟩
  have ek : c.k = c1.k := by rw [hcc]
  have ees : c.es = c1.es ++ c2.es := by rw [hcc]
  have fc : ∀ k, c.F k → c1.F k ∨ c2.F k ∨ w.heap.size ≤ k := by
    intro k hk
    rw [hcc] at hk
    rcases hk with hk | hk | hk | hk
    · exact .inl (hF1 k (.inl hk))
    · rcases b1 k hk with q | q
      · exact .inl (hF1 k (.inr (.inl q)))
      · exact .inr (.inr q)
    · exact .inl (hF1 k (.inr (.inr hk)))
    · exact .inr (.inl (hF2 k (.inr (.inr hk))))
  have fl : ∀ k, c.F k → k < w7.heap.size := by
    intro k hk
    rw [hcc] at hk
    rcases hk with rfl | hk | hk | hk
    · exact n1.lt
    · exact (n1.own.lt k hk).2
    · exact Nat.lt_of_lt_of_le (hc.apart k hk).2.2.2 hf.size
    · exact Nat.lt_of_lt_of_le (hc2.apart k hk).2.2.2 hf.size
  have uc : Sub B d w7 c.F c.g c.k c.ps c.es := by
    subst hcc
    refine ⟨v1', _, n1, hcj.step hf st, ?_, rfl⟩
    intro k hk
    have hlt : B ≤ k ∧ k < w.heap.size := by
      rcases hk with hk | hk
      · exact (hc.apart k hk).2.2
      · exact (hc2.apart k hk).2.2
    refine ⟨fun e => st k hk (.inl e), fun e => ?_, hlt.1, Nat.lt_of_lt_of_le hlt.2 hf.size⟩
    rcases b1 k e with q | q
    · exact st k hk (.inr (.inl q))
    · omega
  have lto : ∀ x, x ∈ A ∨ x ∈ C → ∀ k, x.F k → k < w.heap.size := fun x hx k hk => (h.apart k (inG x (mo x hx) k hk)).2.2.2
  have old : ∀ k, G k → k ≠ g ∧ v'.ownBlock ≠ some k ∧ B ≤ k ∧ k < w7.heap.size := by
    intro k hk
    obtain ⟨q1, q2, q3, q4⟩ := h.apart k hk
    exact ⟨q1, by rw [b0]; exact q2, q3, Nat.lt_of_lt_of_le q4 hf.size⟩
  refine ⟨fun k => ∃ x ∈ A ++ c :: C, x.F k, c, ⟨?_, ⟨?_, ?_, rfl⟩, ?_⟩, by rw [hcc], by rw [hcc], ees, ?_⟩
  · rw [hcc]
    simpa [Kd.pv] using n0
  · intro x hx
    rcases List.mem_append.1 hx with hx | hx
    · exact hw x (.inl hx)
    · rcases List.mem_cons.1 hx with rfl | hx
      · exact uc
      · exact hw x (.inr hx)
  · refine List.pairwise_append.2 ⟨hr.1, List.pairwise_cons.2 ⟨fun x hx => ?_, hr3.2⟩, fun a ha x hx => ?_⟩
    · refine ⟨by rw [ek]; exact (hr2.1 x (List.mem_cons_of_mem _ hx)).1, fun e he => ?_, fun k hk hxk => ?_⟩
      · rw [ees] at he
        rcases List.mem_append.1 he with he | he
        · exact (hr2.1 x (List.mem_cons_of_mem _ hx)).2.1 e he
        · exact (hr3.1 x hx).2.1 e he
      · rcases fc k hk with q | q | q
        · exact (hr2.1 x (List.mem_cons_of_mem _ hx)).2.2 k q hxk
        · exact (hr3.1 x hx).2.2 k q hxk
        · have := lto x (.inr hx) k hxk; omega
    · rcases List.mem_cons.1 hx with rfl | hx
      · have q1 := hr.2.2 a ha c1 (List.mem_cons_self ..)
        have q2 := hr.2.2 a ha c2 (List.mem_cons_of_mem _ (List.mem_cons_self ..))
        refine ⟨by rw [ek]; exact q1.1, fun e he => by rw [ek]; exact q1.2.1 e he, fun k hk hxk => ?_⟩
        rcases fc k hxk with q | q | q
        · exact q1.2.2 k hk q
        · exact q2.2.2 k hk q
        · have := lto a (.inl ha) k hk; omega
      · exact hr.2.2 a ha x (List.mem_cons_of_mem _ (List.mem_cons_of_mem _ hx))
  · rintro k ⟨x, hx, hxk⟩
    rcases List.mem_append.1 hx with hx | hx
    · exact old k (inG x (mo x (.inl hx)) k hxk)
    · rcases List.mem_cons.1 hx with rfl | hx
      · rcases fc k hxk with q | q | q
        · exact old k (inG c1 m1 k q)
        · exact old k (inG c2 m2 k q)
        · refine ⟨fun e => ?_, fun e => ?_, by omega, fl k hxk⟩
          · have := h.nd.lt; omega
          · rw [b0] at e
            have := (h.nd.own.lt k e).2; omega
      · exact old k (inG x (mo x (.inr hx)) k hxk)
  · intro k hk
    rcases hk with hk | hk | ⟨x, hx, hxk⟩
    · exact .inl (.inl hk)
    · exact .inl (.inr (.inl (by rw [← b0]; exact hk)))
    · rcases List.mem_append.1 hx with hx | hx
      · exact .inl (.inr (.inr (inG x (mo x (.inl hx)) k hxk)))
      · rcases List.mem_cons.1 hx with rfl | hx
        · rcases fc k hxk with q | q | q
          · exact .inl (.inr (.inr (inG c1 m1 k q)))
          · exact .inl (.inr (.inr (inG c2 m2 k q)))
          · exact .inr q
        · exact .inl (.inr (.inr (inG x (mo x (.inr hx)) k hxk)))

set_option maxHeartbeats 4000000 in
set_option maxRecDepth 100000 in
theorem join_any (B d : Nat) (w : World) (g : Nat) (v : Value) (G : Bl) (A C : List Kd) (c1 c2 : Kd) (h : Nod B d w g v G (A ++ c1 :: c2 :: C)) (hne : c1.ps ≠ []) (hne2 : c2.ps ≠ []) (hsz : c1.ps.length + c2.ps.length ≤ 2147483648) (hn : (A ++ c1 :: c2 :: C).length ≤ 2147483648) :
    Calls Try.prog 53 #[.pointer (some ⟨g, 0, none⟩), .int .i64 (A.length : Nat)] w fun e w' => ∃ v' G' c, e = .returned (.tuple #[]) ∧ Nod B d w' g v' G' (A ++ c :: C) ∧ c.key = c1.key ∧ c.ps = c1.ps ++ c2.ps ∧ c.es = c1.es ++ c2.es ∧
      Frm (Fo g v G) w w' ∧ New w (Fo g v G) (Fo g v' G') := by
  generalize hP : (fun (e : Ending) (w' : World) => ∃ v' G' c, e = .returned (.tuple #[]) ∧ Nod B d w' g v' G' (A ++ c :: C) ∧ c.key = c1.key ∧ c.ps = c1.ps ++ c2.ps ∧ c.es = c1.es ++ c2.es ∧
      Frm (Fo g v G) w w' ∧ New w (Fo g v G) (Fo g v' G')) = P
  have m1 : c1 ∈ A ++ c1 :: c2 :: C := List.mem_append_right _ (List.mem_cons_self ..)
  have m2 : c2 ∈ A ++ c1 :: c2 :: C := List.mem_append_right _ (List.mem_cons_of_mem _ (List.mem_cons_self ..))
  obtain ⟨v1, G1, hc1⟩ := h.kids.sub c1 m1
  obtain ⟨v2, G2, hc2⟩ := h.kids.sub c2 m2
  have hpv : ((A ++ c1 :: c2 :: C).map Kd.pv)[A.length]? = some c1.pv := by rw [List.getElem?_map, List.getElem?_append_right (Nat.le_refl _), Nat.sub_self]; rfl
  have hpv2 : ((A ++ c1 :: c2 :: C).map Kd.pv)[A.length + 1]? = some c2.pv := by rw [List.getElem?_map, List.getElem?_append_right (by omega), show A.length + 1 - A.length = 1 by omega]; rfl
  obtain ⟨gb, cap, rfl, k1, k2, -, -, d1, -⟩ := h.nd.own.at hpv
  obtain ⟨_, _, e5, -, -, -, -, d2, -⟩ := h.nd.own.at hpv2
  injection e5 with e5 e6 e7
  injection e5 with e5
  injection e5 with e5
  subst e5
  clear e6 e7
  have hz1 : 0 < c1.ps.length := by cases hq : c1.ps with | nil => exact absurd hq hne | cons => simp
  have hz2 : 0 < c2.ps.length := by cases hq : c2.ps with | nil => exact absurd hq hne2 | cons => simp
  obtain ⟨ga, ca, rfl, m3, m4, -⟩ := hc1.nd.own.at (List.getElem?_eq_getElem hz1)
  obtain ⟨gd, cd, rfl, m5, m6, -⟩ := hc2.nd.own.at (List.getElem?_eq_getElem hz2)
  obtain ⟨c0, -⟩ := h.nd.cell
  obtain ⟨x0, -⟩ := hc1.nd.cell
  obtain ⟨y0, -⟩ := hc2.nd.cell
  simp only [Kd.pv, kp, Option.map_some] at d1 d2
  have ln : ((A ++ c1 :: c2 :: C).map Kd.pv).length = A.length + 2 + C.length := by simp; omega
  obtain ⟨n, en⟩ : ∃ n, c1.ps.length = n := ⟨_, rfl⟩
  obtain ⟨m, em⟩ : ∃ n, c2.ps.length = n := ⟨_, rfl⟩
  obtain ⟨a, ea⟩ : ∃ n, A.length = n := ⟨_, rfl⟩
  obtain ⟨b, eb⟩ : ∃ n, C.length = n := ⟨_, rfl⟩
  have hn' : a + 2 + b ≤ 2147483648 := by simp at hn; omega
  rw [ln] at c0 k1
  rw [en] at x0 m3 hsz hz1
  rw [em] at y0 m5 hsz hz2
  rw [ea] at c0 k1 d1 d2 ⊢
  rw [eb] at c0 k1
  have fc1 : ∀ k, Fo c1.g (.slice (some ⟨ga, 0, none⟩) c1.ps.length ca) G1 k → c1.F k := fun k hk => by rw [hc1.foot]; exact hk
  have fc2 : ∀ k, Fo c2.g (.slice (some ⟨gd, 0, none⟩) c2.ps.length cd) G2 k → c2.F k := fun k hk => by rw [hc2.foot]; exact hk
  have hA := fun k hk => h.apart k (by rw [h.kids.foot]; exact ⟨c1, m1, hk⟩)
  have hA2 := fun k hk => h.apart k (by rw [h.kids.foot]; exact ⟨c2, m2, hk⟩)
  have ne1 : ¬ c1.g = g := (hA _ (fc1 _ (.inl rfl))).1
  have ne2 : ¬ gb = c1.g := fun e => (hA _ (fc1 _ (.inl rfl))).2.1 (by rw [e]; rfl)
  have ne3 : ¬ ga = g := (hA _ (fc1 _ (.inr (.inl rfl)))).1
  have ne4 : ¬ gb = ga := fun e => (hA _ (fc1 _ (.inr (.inl rfl)))).2.1 (by rw [e]; rfl)
  have ne5 : ¬ ga = c1.g := fun e => hc1.nd.ne (by rw [e]; rfl)
  have ne6 : ¬ gb = g := fun e => h.nd.ne (by rw [e]; rfl)
  have lg : g < w.heap.size := h.nd.lt
  have lc : c1.g < w.heap.size := hc1.nd.lt
  have lga : ga < w.heap.size := (hc1.nd.own.lt ga rfl).2
  have lgb : gb < w.heap.size := (h.nd.own.lt gb rfl).2
  have hBw : B ≤ w.heap.size := by have := h.nd.bg; omega
  have hk0 : (a : Int) < (a : Int) + 2 + (b : Int) := by omega
  have hk1 : (a : Int) + 1 < (a : Int) + 2 + (b : Int) := by omega
  have hw1 : IntKind.i64.wrap ((a : Int) + 1) = (a : Int) + 1 := IntWalk.i64_in _ (by omega)
  have hw2 : IntKind.i64.wrap ((a : Int) + 2) = (a : Int) + 2 := IntWalk.i64_in _ (by omega)
  have hw3 : (0 : Int) ≤ (a : Int) + 1 := by omega
  have hw4 : ((a : Int) + 1).toNat = a + 1 := by omega
  have H := Lib.hid h
  have H1 := Lib.hid hc1
  have H2 := Lib.hid hc2
  have HN := Lib.hid en
  have HM := Lib.hid em
  have HNE := Lib.hid hne
  have HL := Lib.hid (show ((A ++ c1 :: c2 :: C).map Kd.pv).length = a + 2 + b by rw [ln, ea, eb])
  have HP := Lib.hid hP
  have HA := Lib.hid ea
  have HB9 := Lib.hid eb
  have HF1 := Lib.hid fc1
  have HF2 := Lib.hid fc2
  clear h hc1 hc2 en em hne hne2 ln hP ea eb fc1 fc2 hA hA2 hpv hpv2 m1 m2 hn
  go_enter Try.func53, Try.ntmps53
  go_wp2_with fail
  go_quiet (fail)
  obtain ⟨wq, hwq⟩ : ∃ wq, w.drewN nq = wq := ⟨_, rfl⟩
  rw [hwq]
  have bq : Below w.heap.size w wq := by rw [← hwq]; exact ⟨rfl, rfl, rfl, Nat.le_refl _, fun _ _ => rfl⟩
  have BQ := Lib.hid bq
  have lq := bq.size
  have N1 := Lib.hid (H1.out.nd.below bq)
  have NG := Lib.hid (H.out.nd.below bq)
  obtain ⟨p0, p0f⟩ := N1.out.cell
  obtain ⟨q0, q0f⟩ := (H2.out.nd.below bq).cell
  rw [HN.out] at p0
  rw [HM.out] at q0
  have HO := Lib.hid (show OwP wq.drew B (.slice (some ⟨ga, 0, none⟩) n ca) c1.ps by have := N1.out.own; rw [HN.out] at this; exact this)
  have HNW := Lib.hid (show ∀ j u, (pcells c2.ps)[j]? = some u → wq.drew.cell? ((⟨gd, 0, none⟩ : Addr).add j) = some u by
    have := (H2.out.nd.below bq).own
    rw [HM.out] at this
    have := this.from 0
    rw [List.drop_zero, Nat.zero_mul] at this
    exact this)
  have lqB : B ≤ wq.drew.heap.size := Nat.le_trans hBw lq
  clear hwq bq
  go_wp2_with fail
  go_upto_region 1 with fail
  go_cut [4] (fun q wx => q = .pointer (some ⟨c1.g, 0, none⟩) ∧ ∃ w3 a3 m3 k3, wx = World.setCell w3 ⟨c1.g, 0, none⟩ (.slice a3 m3 k3) ∧ OwP w3 B (.slice a3 m3 k3) (c1.ps ++ c2.ps) ∧ NewB wq.drew (.slice (some ⟨ga, 0, none⟩) n ca) (.slice a3 m3 k3) ∧ wq.drew.grownBy w3 (some ga))
  case first =>
    go_region_law (refine step_pushP rfl (.tmp 27) (.tmp 31) rfl B (.slice (some ⟨ga, 0, none⟩) n ca) c1.ps (by simp [Act.eval, Act.put]) HO.out lqB ⟨gd, 0, none⟩ m cd c2.ps HM.out (by simp [Act.eval, Act.put]) HNW.out (by rw [HN.out]; omega) ?_; rintro v3 w3 o3 g3 q3; obtain ⟨a3, m3, k3, rfl⟩ := o3.form'; obtain ⟨x3, x3f, -⟩ := head_grown (w := wq.drew) N1.out.hd g3 (by simp [Value.ownBlock]; exact ne5); have HX := Lib.hid (show ∃ w3' a3' m3' k3', w3.setCell ⟨c1.g, 0, none⟩ (.slice a3 m3 k3) = World.setCell w3' ⟨c1.g, 0, none⟩ (.slice a3' m3' k3') ∧ OwP w3' B (.slice a3' m3' k3') (c1.ps ++ c2.ps) ∧ NewB wq.drew (.slice (some ⟨ga, 0, none⟩) n ca) (.slice a3' m3' k3') ∧ wq.drew.grownBy w3' (some ga) from ⟨w3, a3, m3, k3, rfl, o3, q3, g3⟩); clear g3 o3 q3)
    all_goals
      go_wp2_with fail
      go_meet
      exact ⟨rfl, HX.out⟩
  case rest =>
    obtain ⟨rfl, w3, a3, m3, k3, hwc, o3, q3, g3⟩ := hcut
    have h3 : w3.heap[c1.g]? = some (.cells #[.slice (some ⟨ga, 0, none⟩) c1.ps.length ca] 69 (0, 0)) := (g3.block c1.g (Nat.lt_of_lt_of_le lc lq) (fun e => ne5 (by injection e with e; exact e.symm))).trans N1.out.hd
    have n4 : NdAt B wc c1.g (.slice a3 m3 k3) (c1.ps ++ c2.ps) := by
      rw [hwc]
      refine ⟨node_put h3, ?_, N1.out.bg⟩
      exact (Frm.set1 (F := fun k => k = c1.g) w3 rfl 0 _).owP o3 (fun k hk e => own_ne o3 h3 (by decide) (by rw [hk, e]))
    have f24 : Frm (fun k => k = ga ∨ k = c1.g) wq wc := by
      rw [hwc]
      exact Frm.setCell (F := fun k => k = ga ∨ k = c1.g) (w := wq) (w1 := w3) ((Frm.refl _ wq).drew.trans (F1 := fun k => k = ga) (Frm.ofGrown g3 (fun k e => by injection e with e; exact e.symm)) (fun k hk => .inl (.inl hk))) (.inl (.inr rfl)) 0 _
    have ng4 := NG.out.step f24 (by rintro (e | e); exact ne3 e.symm; exact ne1 e.symm) (by
      intro k hk
      simp only [Value.ownBlock, Option.some.injEq] at hk
      subst hk
      rintro (e | e)
      · exact ne4 e
      · exact ne2 e)
    obtain ⟨y4, y4f⟩ := ng4.cell
    rw [HL.out] at y4
    have HD := Lib.hid (del_any B wc (.slice (some ⟨gb, 0, none⟩) ((A ++ c1 :: c2 :: C).map Kd.pv).length cap) ((A ++ c1 :: c2 :: C).map Kd.pv) ng4.own (by rw [HL.out]; omega) (a + 1) (a + 2) (by omega) (by rw [HL.out]; omega))
    rw [HL.out, show ((a + 1 : Nat) : Int) = (a : Int) + 1 by omega, show ((a + 2 : Nat) : Int) = (a : Int) + 2 by omega] at HD
    have lists : ((A ++ c1 :: c2 :: C).map Kd.pv).take (a + 1) ++ ((A ++ c1 :: c2 :: C).map Kd.pv).drop (a + 2) = (A ++ c1 :: C).map Kd.pv := by
      have e1 : (A ++ c1 :: c2 :: C).map Kd.pv = (A ++ [c1]).map Kd.pv ++ (c2 :: C).map Kd.pv := by simp
      have e2 : a + 1 = ((A ++ [c1]).map Kd.pv).length := by simp; exact HA.out.symm
      have e3 : (A ++ c1 :: c2 :: C).map Kd.pv = (A ++ [c1, c2]).map Kd.pv ++ C.map Kd.pv := by simp
      have e4 : a + 2 = ((A ++ [c1, c2]).map Kd.pv).length := by simp; have := HA.out; omega
      conv => lhs; arg 1; rw [e1, e2, List.take_left]
      conv => lhs; arg 2; rw [e3, e4, List.drop_left]
      simp
    have HFIN := Lib.hid (show ∀ w6 v7, OwP w6 B v7 (((A ++ c1 :: c2 :: C).map Kd.pv).take (a + 1) ++ ((A ++ c1 :: c2 :: C).map Kd.pv).drop (a + 2)) → v7.ownBlock = (Value.slice (some ⟨gb, 0, none⟩) (a + 2 + b) cap).ownBlock → wc.grownBy w6 (Value.slice (some ⟨gb, 0, none⟩) (a + 2 + b) cap).ownBlock → P (.returned (.tuple #[])) (w6.setCell ⟨g, 0, none⟩ v7) by
      intro w6 v7 o7 b7 g7
      have g7' : wc.grownBy w6 (some gb) := g7
      have f7 : Frm (fun k => k = gb ∨ k = g) wc (w6.setCell ⟨g, 0, none⟩ v7) := (Frm.ofGrown (F := fun k => k = gb ∨ k = g) g7' (fun k e => .inl (by injection e with e; exact e.symm))).setCell (.inl (.inr rfl)) 0 v7
      have hg6 : w6.heap[g]? = some (.cells #[.slice (some ⟨gb, 0, none⟩) ((A ++ c1 :: c2 :: C).map Kd.pv).length cap] 69 (0, 0)) := by
        rw [g7'.block g ng4.lt (fun e => ne6 (by injection e with e; exact e.symm))]
        exact ng4.hd
      have n0 : NdAt B (w6.setCell ⟨g, 0, none⟩ v7) g v7 ((A ++ c1 :: C).map Kd.pv) := by
        rw [← lists]
        refine ⟨node_put hg6, ?_, ng4.bg⟩
        exact (Frm.set1 (F := fun k => k = g) w6 rfl 0 _).owP o7 (fun k hk e => own_ne o7 hg6 (by decide) (by rw [hk, e]))
      have hb3 : ∀ k, (Value.slice a3 m3 k3).ownBlock = some k → k = ga ∨ w.heap.size ≤ k := by
        intro k hk
        rcases q3 k hk with e | e
        · simp only [Value.ownBlock, Option.some.injEq] at e; exact .inl e.symm
        · have e' : wq.heap.size ≤ k := e
          exact .inr (by omega)
      have n1 := n4.step f7 (by rintro (e | e); exact ne2 e.symm; exact ne1 e) (by
        intro k hk
        rcases hb3 k hk with rfl | e
        · rintro (e | e)
          · exact ne4 e.symm
          · exact ne3 e
        · rintro (e | e) <;> omega)
      have hf : Frm (fun k => k = c1.g ∨ (Value.slice (some ⟨ga, 0, none⟩) c1.ps.length ca).ownBlock = some k ∨ k = g ∨ (Value.slice (some ⟨gb, 0, none⟩) ((A ++ c1 :: c2 :: C).map Kd.pv).length cap).ownBlock = some k) w (w6.setCell ⟨g, 0, none⟩ v7) := by
        refine ((Frm.of_below BQ.out).trans (F1 := fun k => k = ga ∨ k = c1.g) f24 ?_).trans f7 ?_
        · rintro k (rfl | rfl)
          · exact .inl (.inr (.inl rfl))
          · exact .inl (.inl rfl)
        · rintro k (rfl | rfl)
          · exact .inl (.inr (.inr (.inr rfl)))
          · exact .inl (.inr (.inr (.inl rfl)))
      obtain ⟨G', c, r1, r2, r3, r4, r5⟩ := join_end H.out H1.out H2.out HNE.out hf n0 n1 (fun k hk => by
        rcases hb3 k hk with rfl | e
        · exact .inl rfl
        · exact .inr e) b7
      rw [← HP.out]
      refine ⟨v7, G', c, rfl, r1, r2, r3, r4, hf.mono ?_, r5⟩
      have hin : ∀ k, c1.F k → G k := fun k hk => by rw [H.out.kids.foot]; exact ⟨c1, List.mem_append_right _ (List.mem_cons_self ..), hk⟩
      rintro k (rfl | hk | rfl | hk)
      · exact .inr (.inr (hin _ (HF1.out _ (.inl rfl))))
      · exact .inr (.inr (hin _ (HF1.out _ (.inr (.inl hk)))))
      · exact .inl rfl
      · exact .inr (.inl hk))
    have HG4 := Lib.hid ng4.hd
    clear h3 o3 g3 lists f24 ng4 n4 hwc q3
    go_wp2_with (first | (go_at_call 45; refine HD.out.mono ?_; rintro e w6 ⟨v7, rfl, o7, b7, g7⟩; obtain ⟨a7, m7, k7, rfl⟩ := o7.form'; obtain ⟨x6, x6f, -⟩ := head_grown HG4.out g7 (by simp [Value.ownBlock]; exact ne6); have HX := Lib.hid (HFIN.out _ _ o7 b7 g7); clear o7 b7 g7))
    all_goals exact bodyPost_ret (v := .tuple #[]) (by simp [results, Try.results53, go_sem]) rfl HX.out

end Go.Proofs.Ytncganfjbalkgaa
