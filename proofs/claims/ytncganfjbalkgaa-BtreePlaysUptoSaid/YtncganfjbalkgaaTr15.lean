/-
  The tree as the program hands it out: Drop: a contract over the translation.
  Conditions: the tree lies in memory.
-/
import Derived.Test.YtncganfjbalkgaaTr14
namespace Go.Proofs.Ytncganfjbalkgaa
open Go.RowKit Go.Joins Go.ChangeShapes Go.WideShapes
set_option linter.unusedVariables false

set_option maxHeartbeats 4000000 in
set_option maxRecDepth 100000 in
theorem tdrop_any (B : Nat) (w : World) (F : Bl) (t : Nat) (es : List Ent) (h : TrX B w F t es) (hn : es.length ≤ 4294967296) (R : Bl) (u : Value) (k : List Nat) (hu : KeyAt w R u k) :
    Calls Try.prog 14 #[.pointer (some ⟨t, 0, none⟩), u] w fun e w' => e = .returned (.bool (ePl es k).2) ∧ ∃ F', Frm F w w' ∧ New w F F' ∧ TrX B w' F' t (eDel es k) := by
  generalize hP : (fun (e : Ending) (w' : World) => e = .returned (.bool (ePl es k).2) ∧ ∃ F', Frm F w w' ∧ New w F F' ∧ TrX B w' F' t (eDel es k)) = P
  have HP := Lib.hid hP
  have hks : sl (strB k) = k := sl_strB hu.choose_spec.choose_spec.choose_spec.choose_spec.2.2.lt
  have hst : (convert 29 9 u).run Try.prog w.drew = .ok (.string (strB k)) w.drew := hu.strN 1
  obtain ⟨d, Fr, g, ps, h1, h2, h3, h4, h5, h6, rfl⟩ := h
  have hnk := nklt_nil k
  have HPUT := Lib.hid (fun wx (hb : Below w.heap.size w wx) => drop_d B (strB k) d wx Fr g [] ps es (h2.below hb) h3 h4 (by rw [hks]; exact hnk))
  rw [hks] at HPUT
  obtain ⟨n, en⟩ : ∃ n, es.length = n := ⟨_, rfl⟩
  have c0 : w.cell? ⟨t, 0, none⟩ = some (.pointer (some ⟨g, 0, none⟩)) := by rw [cell_of_block h1]; rfl
  have lt : t < w.heap.size := (Array.getElem?_eq_some_iff.1 h1).1
  rw [en] at h1 hn
  have H1 := Lib.hid h1
  have H2 := Lib.hid h2
  have H4 := Lib.hid h4
  have H5 := Lib.hid h5
  have HEN := Lib.hid en
  obtain ⟨a, m, cap, eu⟩ : ∃ a m cap, u = .slice a m cap := by obtain ⟨a, b, off, cap, e, -⟩ := hu; exact ⟨a, _, cap, e⟩
  subst eu
  cases ht : (ePl es k).2 with
  | false =>
    have HC := Lib.hid (show ∀ wx, Below w.heap.size w wx → Calls Try.prog 34 #[.pointer (some ⟨g, 0, none⟩), .string (strB k)] wx fun e w2 => e = .returned (.bool false) ∧ Below wx.heap.size wx w2 by
      intro wx hb
      refine (HPUT.out wx hb).mono ?_
      rintro e w2 (⟨-, q1, q2⟩ | ⟨q1, -⟩)
      · exact ⟨q1, q2⟩
      · rw [ht] at q1; cases q1)
    have HFIN := Lib.hid (show ∀ w2, Below w.heap.size w w2 → P (.returned (.bool false)) w2 by
      intro w2 hb
      rw [← HP.out]
      refine ⟨by rw [ht], _, Frm.of_below hb, New.refl _ _, ?_⟩
      have : eDel es k = es := by unfold eDel; rw [ht]; rfl
      rw [this]
      exact TrX.below ⟨d, Fr, g, ps, by rw [HEN.out]; exact H1.out, H2.out, h3, H4.out, H5.out, h6, rfl⟩ hb)
    clear hP h1 h2 h4 h5 hu hks hnk en ht
    go_enter Try.func14, Try.ntmps14
    go_wp2_with fail
    go_region_with (go_at_call 34; refine (HC.out w.drew ((Below.refl _ _).drew)).mono ?_; rintro e w2 ⟨rfl, b2⟩; have HX := Lib.hid (HFIN.out _ (stepB ((Below.refl _ _).drew) b2)); clear b2)
    all_goals
      go_wp2_with fail
      exact HX.out
  | true =>
    have hlen : (eDel es k).length = n - 1 ∧ 1 ≤ n := by
      have := (ePl_le es k).2 ht
      unfold eDel
      rw [ht, if_pos rfl, List.length_append, List.length_take, List.length_drop]
      omega
    obtain ⟨hlen, hn1⟩ := hlen
    have HC := Lib.hid (show ∀ wx, Below w.heap.size w wx → Calls Try.prog 34 #[.pointer (some ⟨g, 0, none⟩), .string (strB k)] wx fun e w2 => e = .returned (.bool true) ∧ ∃ F' ps', Frm Fr w w2 ∧ New w Fr F' ∧ Sub B d w2 F' g [] ps' (eDel es k) ∧ ps'.length ≤ ps.length ∧ ps.length ≤ ps'.length + 1 by
      intro wx hb
      refine (HPUT.out wx hb).mono ?_
      rintro e w2 (⟨q1, -⟩ | ⟨-, rfl, F', ps', f1, n1, s1, l1, l2⟩)
      · rw [ht] at q1; cases q1
      · exact ⟨rfl, F', ps', (Frm.of_below hb).trans f1 (New.refl _ _), (fun k hk => by
          rcases n1 k hk with q | q
          · exact .inl q
          · exact .inr (Nat.le_trans hb.size q)), s1, l1, l2⟩)
    have HT := Lib.hid ht
    have HLN := Lib.hid hlen
    clear hP h1 h2 h4 h5 hu hks hnk en ht hlen
    go_enter Try.func14, Try.ntmps14
    go_upto_region 1 with fail
    go_cut [12] (fun q wx => q = .bool false ∧ ∃ F' ps', Frm Fr w wx ∧ New w Fr F' ∧ Sub B d wx F' g [] ps' (eDel es k) ∧ ps'.length ≤ ps.length ∧ ps.length ≤ ps'.length + 1)
    case first =>
      go_region_with (go_at_call 34; refine (HC.out w.drew ((Below.refl _ _).drew)).mono ?_; rintro e w2 ⟨rfl, hx⟩; have HX := Lib.hid hx; clear hx)
      all_goals
        go_wp2_with fail
        go_meet
        exact ⟨rfl, HX.out⟩
    case rest =>
      obtain ⟨rfl, F', ps', f1, n1, s1, l1, l2⟩ := hcut
      have h1c : wc.heap[t]? = some (.cells #[.pointer (some ⟨g, 0, none⟩), .int .i64 (n : Nat)] 71 (0, 0)) := (f1.heap lt H5.out).trans H1.out
      have d0 : wc.cell? ⟨t, 0, none⟩ = some (.pointer (some ⟨g, 0, none⟩)) := by rw [cell_of_block h1c]; rfl
      have d1 : wc.cell? ⟨t, 1, none⟩ = some (.int .i64 (n : Nat)) := by rw [cell_of_block h1c]; rfl
      have e0 := unfrozen_of_block h1c 0
      have e1 := unfrozen_of_block h1c 1
      have ltc : t < wc.heap.size := Nat.lt_of_lt_of_le lt f1.size
      have hF't : ¬ F' t := fun hk => by
        rcases n1 t hk with q | q
        · exact H5.out q
        · omega
      have hgF : F' g := by obtain ⟨v, G, ss⟩ := s1; rw [ss.foot]; exact .inl rfl
      have hgt : ¬ t = g := fun e => hF't (by rw [e]; exact hgF)
      obtain ⟨w3, hw3⟩ : ∃ w3, wc.setCell ⟨t, 1, none⟩ (.int .i64 ((n : Int) - 1)) = w3 := ⟨_, rfl⟩
      have fs : Frm (fun k => k = t) wc w3 := by rw [← hw3]; exact Frm.set1 (F := fun k => k = t) wc rfl 1 _
      have s3 := s1.step fs (fun k hk e => hF't (by rw [← e]; exact hk))
      have h13 : w3.heap[t]? = some (.cells #[.pointer (some ⟨g, 0, none⟩), .int .i64 ((n : Int) - 1)] 71 (0, 0)) := by rw [← hw3]; exact (tree_put h1c).2
      have x0 : w3.cell? ⟨t, 0, none⟩ = some (.pointer (some ⟨g, 0, none⟩)) := by rw [cell_of_block h13]; rfl
      have x0f := unfrozen_of_block h13 0
      have hw1 : IntKind.i64.wrap ((n : Int) - 1) = (n : Int) - 1 := IntWalk.i64_in _ (by omega)
      have hnn : ((n - 1 : Nat) : Int) = (n : Int) - 1 := by omega
      have HF' := Lib.hid ((f1.mono (fun k hk => .inr hk)).trans (F1 := fun k => k = t) (F := fun k => k = t ∨ Fr k) fs (fun k hk => .inl (.inl hk)))
      have HN' := Lib.hid (show New w (fun k => k = t ∨ Fr k) (fun k => k = t ∨ F' k) by
        rintro k (rfl | hk)
        · exact .inl (.inl rfl)
        · rcases n1 k hk with q | q
          · exact .inl (.inr q)
          · exact .inr q)
      have N1 := Lib.hid n1
      have S3 := Lib.hid s3
      have FT := Lib.hid hF't
      have H13 := Lib.hid h13
      have HW := Lib.hid hw3
      have HNN := Lib.hid hnn
      obtain ⟨a', cap', y0⟩ : ∃ a' cap', w3.cell? ⟨g, 0, none⟩ = some (.slice a' ps'.length cap') := by
        obtain ⟨v, G, ss⟩ := s3
        obtain ⟨a', cap', rfl, -⟩ := ss.nd.form
        exact ⟨a', cap', ss.nd.cell.1⟩
      obtain ⟨m', em⟩ : ∃ m', ps'.length = m' := ⟨_, rfl⟩
      rw [em] at y0 l1 l2
      have EM := Lib.hid em
      -- nothing else turns
      have HSTAY := Lib.hid (show (d = 0 ∨ 2 ≤ m') → P (.returned (.bool true)) w3 by
        intro hd
        rw [← HP.out]
        exact ⟨by rw [HT.out], _, HF'.out, HN'.out, d, F', g, ps', by rw [HLN.out, HNN.out]; exact H13.out, S3.out, by rw [EM.out]; omega, by rw [EM.out]; exact hd, FT.out, h6, rfl⟩)
      clear f1 n1 s1 fs s3 em hF't hgF h1c h13 hw3 hnn
      go_upto_region 4 with fail
      rw [HW.out]
      by_cases c1 : m' = 1
      · subst c1
        cases d with
        | zero =>
          have HLF := Lib.hid (isleaf_sub0 S3.out (by rw [EM.out]; decide))
          go_wp2_with (go_at_call 35; refine HLF.out.mono ?_; rintro e w4 ⟨rfl, rfl⟩)
          exact HSTAY.out (by simp)
        | succ d =>
          obtain ⟨v, G, ks, nod, hsz, hps, hes, hl, hF⟩ := S3.out.nod
          obtain ⟨c, rfl⟩ : ∃ c, ks = [c] := by
            have := EM.out
            rw [hps, List.length_map] at this
            exact List.length_eq_one_iff.1 this
          have HLF := Lib.hid (isleaf_nod nod (by simp) (by simp))
          obtain ⟨gb, cb, rfl, -, -, -, -, d2, -⟩ := nod.nd.own.at (i := 0) (p := c.pv) rfl
          have y1 := nod.nd.cell.1
          simp only [Kd.pv, kp, Option.map_some, Nat.zero_mul, Nat.zero_add, List.map_cons, List.map_nil, List.length_singleton] at d2 y1
          have HFIN := Lib.hid (show P (.returned (.bool true)) (w3.setCell ⟨t, 0, none⟩ (.pointer (some ⟨c.g, 0, none⟩))) by
            rw [← HP.out]
            have hcs := hsz c (List.mem_singleton.2 rfl)
            have hin : ∀ k, c.F k → F' k := fun k hk => by rw [hF]; exact .inr (.inr (by rw [nod.kids.foot]; exact ⟨c, List.mem_singleton.2 rfl, hk⟩))
            have fq : Frm (fun k => k = t) w3 (w3.setCell ⟨t, 0, none⟩ (.pointer (some ⟨c.g, 0, none⟩))) := Frm.set1 (F := fun k => k = t) w3 rfl 0 _
            have hsub := (nod.kids.sub c (List.mem_singleton.2 rfl)).step fq (fun k hk e => FT.out (by rw [← e]; exact hin k hk))
            have hck : c.k = [] := by simpa using hl
            have hce : c.es = eDel es k := by rw [hes]; simp
            rw [hck, hce] at hsub
            refine ⟨by rw [HT.out], fun k => k = t ∨ c.F k, HF'.out.trans fq (fun k hk => .inl (.inl hk)), ?_, d, c.F, c.g, c.ps, ?_, hsub, hcs.2, .inr (by omega), fun e => FT.out (hin _ e), h6, rfl⟩
            · rintro k (rfl | hk)
              · exact .inl (.inl rfl)
              · exact HN'.out k (.inr (hin k hk))
            · rw [HLN.out, HNN.out]
              exact (tree_put H13.out).1)
          clear nod hsz hps hes hl hF y0
          go_wp2_with (go_at_call 35; refine HLF.out.mono ?_; rintro e w4 ⟨rfl, rfl⟩)
          exact HFIN.out
      · have c2 : ((m' : Int) == 1) = false := by simp; omega
        have c3 : ¬ (m' : Int) = 1 := by omega
        have hd : d = 0 ∨ 2 ≤ m' := by
          rcases H4.out with q | q
          · exact .inl q
          · exact .inr (by omega)
        go_wp2_with fail
        exact HSTAY.out hd

end Go.Proofs.Ytncganfjbalkgaa
