/-
  put into a tree of any depth: a contract over the translation.
  Conditions: the tree lies in memory.
-/
import Derived.Test.YtncganfjbalkgaaTr9
namespace Go.Proofs.Ytncganfjbalkgaa
open Go.RowKit Go.Joins Go.ChangeShapes Go.WideShapes
set_option linter.unusedVariables false

theorem flat_mid (A C : List Kd) (c : Kd) : (A ++ c :: C).flatMap Kd.es = A.flatMap Kd.es ++ c.es ++ C.flatMap Kd.es := by simp

/-- the child in which a key belongs, and what lies around it -/
theorem Nod.at {B d : Nat} {w : World} {g : Nat} {v : Value} {G : Bl} {ks : List Kd} {lo : List Nat} (h : Nod B d w g v G ks) (hl : ks.head?.map Kd.k = some lo) {k : List Nat} (hk : ¬ klt k lo) :
    ∃ A c C, ks = A ++ c :: C ∧ chI (ents (ks.map Kd.pv)) k = (A.length : Nat) ∧ ¬ klt k c.k ∧ (∀ x ∈ C, klt k x.k) ∧ (∀ e ∈ A.flatMap Kd.es, klt e.1 k) ∧ (∀ e ∈ C.flatMap Kd.es, klt k e.1) := by
  obtain ⟨A, c, C, e, h1, h2, h3⟩ := child_split ks h.kids.srt lo k hl hk
  subst e
  have ha := around h.kids (fun x hx e he => by
    obtain ⟨v', G', hx'⟩ := h.kids.sub x (List.mem_append_right _ (List.mem_cons_of_mem _ hx))
    exact hx'.con.lo e he) h2 h3
  exact ⟨A, c, C, rfl, h1, h2, h3, ha.1, ha.2⟩

set_option maxHeartbeats 4000000 in
set_option maxRecDepth 100000 in
theorem put_node (B d : Nat) (s : ByteArray) (id : Int) (IH : ∀ (w : World) (F : Bl) (g : Nat) (lo : List Nat) (ps : List Pv) (es : List Ent), Sub B d w F g lo ps es → ps.length ≤ 8 → ¬ klt (sl s) lo →
      Calls Try.prog 32 #[.pointer (some ⟨g, 0, none⟩), .string s, .int .i64 id] w (PutPost B d w F g lo ps es (sl s) id))
    (w : World) (F : Bl) (g : Nat) (lo : List Nat) (ps : List Pv) (es : List Ent) (h : Sub B (d + 1) w F g lo ps es) (hn : ps.length ≤ 8) (hlo : ¬ klt (sl s) lo) :
    Calls Try.prog 32 #[.pointer (some ⟨g, 0, none⟩), .string s, .int .i64 id] w (PutPost B (d + 1) w F g lo ps es (sl s) id) := by
  obtain ⟨v, G, ks, nod, hsz, rfl, rfl, hl, rfl⟩ := h.nod
  obtain ⟨A, c, C, rfl, hch, hkc, hkC, hA, hC⟩ := nod.at hl hlo
  have hmid := ePl_mid (m := c.es) hA hC
  have hmidp := ePut_mid (m := c.es) (id := id) hA hC
  rw [← flat_mid] at hmid
  have hcm : c ∈ A ++ c :: C := List.mem_append_right _ (List.mem_cons_self ..)
  have hlen : A.length + 1 + C.length ≤ 8 := by simp at hn; omega
  have HLF := Lib.hid (isleaf_nod nod (by simp) (by simp; omega))
  have HCH := Lib.hid (child_any B w g v _ nod.nd nod.kids.srt (by simp; omega) s)
  rw [hch] at HCH
  have HIH := Lib.hid (fun w1 (hb : Below w.heap.size w w1) => IH w1 c.F c.g c.k c.ps c.es ((nod.kids.sub c hcm).below hb) (hsz c hcm).2 hkc)
  have hpv : ((A ++ c :: C).map Kd.pv)[A.length]? = some c.pv := by rw [List.getElem?_map, List.getElem?_append_right (Nat.le_refl _), Nat.sub_self]; rfl
  have HAT := Lib.hid (fun w1 (hb : Below w.heap.size w w1) => (nod.nd.below hb).own.at hpv)
  obtain ⟨gb, cap, rfl, k1, k2, -, -, d1, -⟩ := nod.nd.own.at hpv
  have ln : ((A ++ c :: C).map Kd.pv).length = A.length + 1 + C.length := by simp; omega
  generalize hP : PutPost B (d + 1) w (Fo g (.slice (some ⟨gb, 0, none⟩) ((A ++ c :: C).map Kd.pv).length cap) G) g lo ((A ++ c :: C).map Kd.pv) ((A ++ c :: C).flatMap Kd.es) (sl s) id = P
  have HP := Lib.hid hP
  have HM := Lib.hid hmid
  have HMP := Lib.hid hmidp
  have HND := Lib.hid nod
  have HSZ := Lib.hid hsz
  have HHL := Lib.hid hl
  have HKC := Lib.hid hkC
  have HCS := Lib.hid (hsz c hcm)
  have HLN := Lib.hid ln
  obtain ⟨a, ea⟩ : ∃ n, A.length = n := ⟨_, rfl⟩
  obtain ⟨b, eb⟩ : ∃ n, C.length = n := ⟨_, rfl⟩
  have HA := Lib.hid ea
  have HB := Lib.hid eb
  have HAT2 := Lib.hid (show ∀ w1, Below w.heap.size w w1 → w1.cell? ⟨g, 0, none⟩ = some (.slice (some ⟨gb, 0, none⟩) (a + 1 + b) cap) ∧ w1.cell? ⟨gb, a * 3 + 2, none⟩ = some (.pointer (some ⟨c.g, 0, none⟩)) by
    intro w1 hb
    obtain ⟨c0, -⟩ := (nod.nd.below hb).cell
    rw [ln, ea, eb] at c0
    obtain ⟨gb', cap', e, -, -, -, -, d1, -⟩ := HAT.out w1 hb
    injection e with e
    injection e with e
    injection e with e
    subst e
    rw [ea] at d1
    exact ⟨c0, d1⟩)
  have hk0 : (a : Int) < (a : Int) + 1 + (b : Int) := by omega
  rw [ea] at HCH hlen
  rw [eb] at hlen
  clear hP hmid hmidp nod hsz hl hkC ln ea eb HAT d1 hpv h hch hA hC hn hcm k1
  cases ht : (ePl c.es (sl s)).2 with
  | true =>
    have HPT := Lib.hid (show ∀ w1, Below w.heap.size w w1 → Calls Try.prog 32 #[.pointer (some ⟨c.g, 0, none⟩), .string s, .int .i64 id] w1 fun e w2 => e = .returned (.bool false) ∧ Below w1.heap.size w1 w2 by
      intro w1 hb
      refine (HIH.out w1 hb).mono ?_
      rintro e w2 (⟨-, h1, h2⟩ | ⟨h1, -⟩)
      · exact ⟨h1, h2⟩
      · rw [ht] at h1; cases h1)
    have HT := Lib.hid ht
    clear ht
    go_enter Try.func32, Try.ntmps32
    go_wp2_with (first | (go_at_call 35; refine HLF.out.mono ?_; rintro e w1 ⟨rfl, rfl⟩) | (go_at_call 43; refine HCH.out.mono ?_; rintro e w1 ⟨rfl, b1⟩; obtain ⟨z1, z2⟩ := HAT2.out _ b1; have HB1 := Lib.hid b1; clear b1) | (go_at_call 32; refine (HPT.out _ HB1.out).mono ?_; rintro e w2 ⟨rfl, b2⟩; have HB2 := Lib.hid b2; clear b2))
    rw [← HP.out]
    exact .inl ⟨by rw [HM.out]; exact HT.out, rfl, stepB HB1.out HB2.out⟩
  | false =>
    have HPF := Lib.hid (show ∀ w1, Below w.heap.size w w1 → Calls Try.prog 32 #[.pointer (some ⟨c.g, 0, none⟩), .string s, .int .i64 id] w1 fun e w2 => e = .returned (.bool true) ∧ ∃ (ps' : List Pv) (G2 : Bl) (c' : Kd) (a' : Option Addr) (cap' : Nat), Frm (Fo g (.slice (some ⟨gb, 0, none⟩) ((A ++ c :: C).map Kd.pv).length cap) G) w w2 ∧
          Nod B d w2 g (.slice (some ⟨gb, 0, none⟩) ((A ++ c :: C).map Kd.pv).length cap) G2 (A ++ c' :: C) ∧ New w (Fo g (.slice (some ⟨gb, 0, none⟩) ((A ++ c :: C).map Kd.pv).length cap) G) (Fo g (.slice (some ⟨gb, 0, none⟩) ((A ++ c :: C).map Kd.pv).length cap) G2) ∧
          c'.key = c.key ∧ c'.g = c.g ∧ c'.ps = ps' ∧ c'.es = ePut c.es (sl s) id ∧ 4 ≤ ps'.length ∧ ps'.length ≤ 9 ∧ w2.cell? ⟨c.g, 0, none⟩ = some (.slice a' ps'.length cap') by
      intro w1 hb
      refine (HIH.out w1 hb).mono ?_
      rintro e w2 (⟨h1, -⟩ | ⟨-, rfl, F', ps', f1, n1, s1, l1, l2⟩)
      · rw [ht] at h1; cases h1
      · obtain ⟨G2, nod2, new2⟩ := (HND.out.below hb).kid f1 n1 s1 (fun e he x hx => by
          rcases ePut_mem he with he | rfl
          · have hr := List.pairwise_append.1 HND.out.kids.rise
            exact ((List.pairwise_cons.1 hr.2.1).1 x hx).2.1 e he
          · exact HKC.out x hx)
        obtain ⟨vv, GG, ss⟩ := s1
        obtain ⟨a', cap', rfl, -⟩ := ss.nd.form
        have hcs := HCS.out
        have hcF : ∀ k, c.F k → Fo g (.slice (some ⟨gb, 0, none⟩) ((A ++ c :: C).map Kd.pv).length cap) G k := fun k hk => .inr (.inr (by rw [HND.out.kids.foot]; exact ⟨c, List.mem_append_right _ (List.mem_cons_self ..), hk⟩))
        refine ⟨rfl, ps', G2, _, a', cap', (Frm.of_below hb).trans f1 (fun k hk => .inl (hcF k hk)), nod2, ?_, rfl, rfl, rfl, rfl, by omega, by omega, ss.nd.cell.1⟩
        intro k hk
        rcases new2 k hk with q | q
        · exact .inl q
        · exact .inr (Nat.le_trans hb.size q))
    have HT := Lib.hid ht
    clear ht
    go_enter Try.func32, Try.ntmps32
    go_upto_region 11 with (first | (go_at_call 35; refine HLF.out.mono ?_; rintro e w1 ⟨rfl, rfl⟩) | (go_at_call 43; refine HCH.out.mono ?_; rintro e w1 ⟨rfl, b1⟩; obtain ⟨z1, z2⟩ := HAT2.out _ b1; have HB1 := Lib.hid b1; clear b1) | (go_at_call 32; refine (HPF.out _ HB1.out).mono ?_; rintro e w2 ⟨rfl, hx⟩; have HX := Lib.hid hx; clear hx))
    obtain ⟨ps', G2, c', a', cap', f2, nod2, new2, ck, cg, cp, ce, l1, l2, y0⟩ := HX.out
    obtain ⟨m, em⟩ : ∃ m, ps'.length = m := ⟨_, rfl⟩
    rw [em] at l1 l2 y0
    have hes : (A ++ c' :: C).flatMap Kd.es = ePut ((A ++ c :: C).flatMap Kd.es) (sl s) id := by
      rw [flat_mid, ce, flat_mid, HMP.out]
    have hhd : ((A ++ c' :: C).head?.map Kd.k) = some lo := heads HHL.out ck
    by_cases h9 : 8 < m
    · obtain rfl : m = 9 := by omega
      have HHV := Lib.hid (halve_any B d w2 g _ G2 A C c' nod2 (by rw [cp]; omega) (by rw [cp]; omega) (by simp; have := HA.out; have := HB.out; omega))
      rw [HA.out] at HHV
      have HF := Lib.hid f2
      have HNW := Lib.hid new2
      have HES := Lib.hid hes
      have HHD := Lib.hid hhd
      have HCL := Lib.hid (show c'.ps.length = 9 by rw [cp]; exact em)
      clear f2 nod2 new2 ck cg cp ce l1 l2 HX em hes hhd
      go_wp2_with (go_at_call 33; refine HHV.out.mono ?_; rintro e w3 ⟨v3, G3, x1, x2, rfl, hx⟩; have HX3 := Lib.hid hx; clear hx)
      obtain ⟨nod3, k1, k2, k3, k4, f3, new3⟩ := HX3.out
      rw [← HP.out]
      refine .inr ⟨by rw [HM.out]; exact HT.out, rfl, Fo g v3 G3, (A ++ x1 :: x2 :: C).map Kd.pv, HF.out.trans f3 HNW.out, HNW.out.trans new3 HF.out.size, ?_, ?_, ?_⟩
      · have := nod3.sub (lo := lo) (fun x hx => by
          rw [HCL.out] at k2 k3
          have hS := HSZ.out
          rcases List.mem_append.1 hx with hx | hx
          · exact hS x (List.mem_append_left _ hx)
          · rcases List.mem_cons.1 hx with rfl | hx
            · omega
            · rcases List.mem_cons.1 hx with rfl | hx
              · omega
              · exact hS x (List.mem_append_right _ (List.mem_cons_of_mem _ hx))) (heads HHD.out k1)
        rw [show (A ++ x1 :: x2 :: C).flatMap Kd.es = (A ++ c' :: C).flatMap Kd.es by simp [← k4], HES.out] at this
        exact this
      · simp only [List.length_map, List.length_append, List.length_cons]; omega
      · simp only [List.length_map, List.length_append, List.length_cons]; omega
    · have h9' : decide ((8 : Int) < (m : Int)) = false := by simp; omega
      have h9n : m ≤ 8 := by omega
      have HF := Lib.hid f2
      have HNW := Lib.hid new2
      have HND2 := Lib.hid nod2
      have HES := Lib.hid hes
      have HHD := Lib.hid hhd
      have HCL := Lib.hid (show c'.ps.length = m by rw [cp]; exact em)
      clear f2 nod2 new2 ck cg cp ce HX em hes hhd
      go_wp2_with fail
      rw [← HP.out]
      refine .inr ⟨by rw [HM.out]; exact HT.out, rfl, _, (A ++ c' :: C).map Kd.pv, HF.out, HNW.out, ?_, ?_, ?_⟩
      · have := HND2.out.sub (lo := lo) (fun x hx => by
          have hS := HSZ.out
          rcases List.mem_append.1 hx with hx | hx
          · exact hS x (List.mem_append_left _ hx)
          · rcases List.mem_cons.1 hx with rfl | hx
            · rw [HCL.out]; omega
            · exact hS x (List.mem_append_right _ (List.mem_cons_of_mem _ hx))) HHD.out
        rw [HES.out] at this
        exact this
      · simp only [List.length_map, List.length_append, List.length_cons]; omega
      · simp only [List.length_map, List.length_append, List.length_cons]; omega

theorem put_d (B : Nat) (s : ByteArray) (id : Int) : ∀ (d : Nat) (w : World) (F : Bl) (g : Nat) (lo : List Nat) (ps : List Pv) (es : List Ent), Sub B d w F g lo ps es → ps.length ≤ 8 → ¬ klt (sl s) lo →
    Calls Try.prog 32 #[.pointer (some ⟨g, 0, none⟩), .string s, .int .i64 id] w (PutPost B d w F g lo ps es (sl s) id)
  | 0, w, F, g, lo, ps, es, h, hn, hlo => put_leaf B w F g lo ps es h (by omega) s hlo id
  | d + 1, w, F, g, lo, ps, es, h, hn, hlo => put_node B d s id (put_d B s id d) w F g lo ps es h hn hlo

end Go.Proofs.Ytncganfjbalkgaa
