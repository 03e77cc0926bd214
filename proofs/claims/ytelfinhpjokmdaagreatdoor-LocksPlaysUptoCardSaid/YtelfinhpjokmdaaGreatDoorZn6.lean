/-
  Texts of mine put together, in build order.
  Conditions: as each declaration says.
-/
import Derived.Lib.RowBridge
import Derived.Test.YtelfinhpjokmdaaGreatDoorZn5
namespace Go.Proofs.YtelfinhpjokmdaaGreatDoor
set_option maxRecDepth 100000
open Go.RowKit Go.Joins Go.ChangeShapes Go.WideShapes
open Go.MapKept
set_option linter.unusedVariables false
set_option linter.unnecessarySimpa false
set_option linter.unusedSimpArgs false

/-- the table in memory, and the two lists of which it speaks -/
structure TbX (w : World) (B : Nat) (own : Nat → Own) (L : Lay) (S : TS RS) (T : TbL RS) : Prop where
  mem : Mem w B own L S
  hi : HiO w own
  tb : TbB w B
  rel : RelT T S
  inv : InvL ordT mds T
theorem TbX.below {w w1 : World} {B : Nat} {own : Nat → Own} {L : Lay} {S : TS RS} {T : TbL RS} (h : TbX w B own L S T) (hb : Below w.heap.size w w1) : TbX w1 B own L S T := ⟨h.mem.below hb, h.hi.below hb.size, h.tb.below hb, h.rel, h.inv⟩
section
variable {w : World} {B : Nat} {own : Nat → Own} {L : Lay} {S : TS RS} {T : TbL RS}
theorem TbX.bnd (h : TbX w B own L S T) (s : RS) (t : Int) : (S.md s t = 0 ∨ (0 < S.md s t ∧ S.md s t < 7)) ∧ (S.md s t ≠ 0 → 0 < S.cn s (S.md s t).toNat) ∧ (∀ m, S.cn s m ≤ sizT T + 1) ∧ (S.hs t).length ≤ sizT T ∧ (S.qu s).length ≤ sizT T := by
  have hb := h.inv.bas (O := ordT) (M := mds)
  obtain ⟨b1, b2⟩ := h.rel.bounds ordT mds hb
  obtain ⟨p1, p2⟩ := h.rel.pos ordT mds hb mds_pos (s := s) (by simp) t
  refine ⟨p1, p2, fun m => ?_, ?_, ?_⟩
  · have := b1 s m; unfold sizT; omega
  · have := b2 t; unfold sizT; omega
  · rw [h.rel.quE]; have := que_le T.wt s; unfold sizT; omega
theorem TbX.adm (h : TbX w B own L S T) (s : RS) (t mode : Int) : admB mds (S.cn s) (S.md s t) mode = can mds T.hv ⟨t, s, mode⟩ :=
  h.rel.adm ordT mds (h.inv.bas (O := ordT) (M := mds)) (fun m hm => by have := mds_pos m hm; omega) (by simp) t mode
/-- a wish granted: the list is the asking's -/
theorem ask_gives {w w' : World} {own' : Nat → Own} {L' : Lay} {rx : List RS} (h : TbX w B own L S T) {S1 : TS RS} (t : Int) (s : RS) (m : Int) (hr : RelP T S1 0 [] rx (fun _ => 0)) (hrx : rx = [] ∨ rx = [s]) (hw : S.ws t = none) (hm : mrg m = true) (h2 : jnI (mdO T.hv t s) m ≠ mdO T.hv t s)
    (h3 : can mds T.hv ⟨t, s, jnI (mdO T.hv t s) m⟩ = true ∧ (mdO T.hv t s ≠ 0 ∨ que T.wt s = [])) (hM : Mem w' B own' L' (grantS S1 ⟨t, s, jnI (mdO T.hv t s) m⟩)) (hh : HiO w' own') (ht : TbB w' B) :
    (askL ordT mds T t s m).2 = 1 ∧ TbX w' B own' L' (grantS S1 ⟨t, s, jnI (mdO T.hv t s) m⟩) (askL ordT mds T t s m).1 := by
  have hb := h.inv.bas (O := ordT) (M := mds)
  have hn : ¬ (mds.right m = false ∨ (wsh T.wt t).isSome = true) := by
    rintro (e | e)
    · have : mrg m = false := e
      rw [hm] at this; cases this
    · rw [← h.rel.ws, hw] at e; cases e
  have he := ask_give ordT mds hn h2 h3
  have hi := h.inv.ask ordT mds t s m
  rw [he] at hi ⊢
  have hrt : mds.right (jnI (mdO T.hv t s) m) = true := mds.jnr _ _ (h.inv.had (O := ordT) (M := mds) t s) hm
  have hg := hr.grant ordT mds hb (l := ⟨t, s, jnI (mdO T.hv t s) m⟩) (by simp) (mds.pos _ hrt)
  refine ⟨rfl, hM, hh, ht, ?_, hi⟩
  rcases hrx with rfl | rfl
  · exact hg
  · exact hg.rxd ⟨_, (mem_gv ordT hb.srt).2 (.inl rfl), rfl⟩
set_option maxHeartbeats 8000000 in
theorem ask_any (h : TbX w B own L S T) (hZ : sizT T ≤ 4294967200) (t : Int) (s : RS) (m : Int) :
    Calls Tryz.prog 6 #[.pointer (some ⟨L.tb, 0, none⟩), .int .i64 t, .string ⟨s.toArray⟩, .int .i64 m] w fun e w' => e = .returned (.int .i64 (askL ordT mds T t s m).2) ∧ ∃ own' L' S', L'.tb = L.tb ∧ TbX w' B own' L' S' (askL ordT mds T t s m).1 ∧ Stp w own w' own' := by
  generalize hP : (fun (e : Ending) (w' : World) => e = .returned (.int .i64 (askL ordT mds T t s m).2) ∧ ∃ own' L' S', L'.tb = L.tb ∧ TbX w' B own' L' S' (askL ordT mds T t s m).1 ∧ Stp w own w' own') = P
  have HP := Lib.hid hP
  clear hP
  obtain ⟨l0, hl0⟩ : ∃ l, (S.ws t).getD zL = l := ⟨_, rfl⟩
  have hlW := h.mem.lookW t
  rw [hl0] at hlW
  unfold encL at hlW
  obtain ⟨c0, c1, c2⟩ := h.mem.cells
  obtain ⟨W1, hW1⟩ : ∃ W1, w.alloc (.cells #[.int .i64 l0.txn, .string ⟨l0.res.toArray⟩, .int .i64 l0.mode] 42) = W1 := ⟨_, rfl⟩
  have hb1 : Below w.heap.size w W1 := by rw [← hW1]; exact (Below.refl _ _).alloc (Nat.le_refl _) _
  have h1 := h.below hb1
  have HS1 := Lib.hid (Stp.of_below (own := own) hb1)
  have HREF := Lib.hid (fun (hr : mds.right m = false ∨ (S.ws t).isSome = true) => show P (.returned (.int .i64 0)) W1 by
    rw [← HP.out]
    have he := ask_ref ordT mds (T := T) (t := t) (s := s) (m := m) (by rcases hr with e | e; exact .inl e; exact .inr (by rw [← h.rel.ws]; exact e))
    rw [he]
    exact ⟨rfl, own, L, S, rfl, h1, HS1.out⟩)
  have HW1 := Lib.hid hW1
  by_cases cw : (S.ws t).isSome = true
  · have HF := Lib.hid (HREF.out (.inr cw))
    rw [cw] at hlW
    clear HREF h h1 hb1 cw hl0 hW1
    go_enter Tryz.func6, Tryz.ntmps6
    go_upto_region 2 with fail
    try rw [HW1.out]
    go_wp2_with fail
    exact HF.out
  · have cw' : (S.ws t).isSome = false := by simpa using cw
    have HWN := Lib.hid (show S.ws t = none by cases e : S.ws t with | none => rfl | some l => rw [e] at cw'; cases cw')
    rw [cw'] at hlW
    have HRT := Lib.hid (right_any m W1)
    cases hm : mrg m with
    | false =>
      have HF := Lib.hid (HREF.out (.inl hm))
      rw [hm] at HRT
      clear HREF h h1 hb1 cw cw' hl0 hW1 hm
      go_enter Tryz.func6, Tryz.ntmps6
      go_upto_region 2 with fail
      try rw [HW1.out]
      go_wp2_with fail
      refine HRT.out.mono ?_
      rintro e w2 ⟨rfl, rfl⟩
      go_wp2_with fail
      exact HF.out
    | true =>
      rw [hm] at HRT
      have HM := Lib.hid hm
      obtain ⟨d0, d1, d2⟩ := h1.mem.cells
      have hlT := h1.mem.lookT s
      have hmd := h1.rel.mdE s t
      have hjr : mds.right (jnI (mdO T.hv t s) m) = true := mds.jnr _ _ (h.inv.had (O := ordT) (M := mds) t s) hm
      obtain ⟨b1, b2, b3, b4, b5⟩ := h.bnd s t
      have HBN := Lib.hid (And.intro b1 (And.intro b2 (And.intro b3 (And.intro b4 b5))))
      have HX := Lib.hid h
      have HX1 := Lib.hid h1
      have HZ := Lib.hid hZ
      cases hex : S.ex s with
      | false =>
        obtain ⟨n1, n2, n3⟩ := h.rel.noE ordT mds h.inv hex t
        have hlT' : (Instr.lookup 48 (.map (some L.bt)) (.string ⟨s.toArray⟩) false).run Tryz.prog W1 = .ok (.pointer none) W1 := by rw [hlT, hex]; rfl
        have hj0 : jnI 0 m = m := mds.jn0 m hm
        have hm0 : ¬ m = 0 := mds.pos m hm
        have hmq : (m == 0) = false := by simpa using hm0
        have HN := Lib.hid (And.intro n1 (And.intro n2 n3))
        have HEX := Lib.hid hex
        have HNT := Lib.hid (newThing_any W1 B h1.mem.bB)
        have HJ0 := Lib.hid hj0
        have z1 := congrFun (h.mem.no s hex).1 t
        have HZ1 := Lib.hid z1
        clear hlT h h1 hb1 cw cw' hl0 hW1 hm hmd hjr b1 b2 b3 b4 b5 hex n1 n2 n3 hZ hj0 z1 HREF
        go_enter Tryz.func6, Tryz.ntmps6
        go_upto_region 2 with fail
        try rw [HW1.out]
        go_wp2_with fail
        refine HRT.out.mono ?_
        rintro e w2 ⟨rfl, rfl⟩
        go_wp2_with fail
        refine HNT.out.mono ?_
        rintro e w2 ⟨g, mb, rfl, hth, hb2, hg, hmb, hgl, hml⟩
        obtain ⟨w3, own3, L3, hput, hM3, hS3, hL3, hg3, hf3⟩ := HX1.out.mem.newT HEX.out hb2 hth hg hmb
        have d0' := cell_lt d0 hb2
        have hexs : (exS S s true).ex s = true := by unfold exS; simp
        have ht3 := hM3.th s hexs
        rw [hg3] at ht3
        have e0 := ht3.c0
        have hlk : (Instr.lookup 56 (.map (some (L3.tm s))) (.int .i64 t) false).run Tryz.prog w3 = .ok (.int .i64 0) w3 := by
          have := ht3.look1 t
          rw [show (exS S s true).md s t = 0 from HZ1.out] at this
          exact this
        have htb3 : TbB w3 B := HX1.out.mem.tb HX1.out.tb hS3
        have HJ := Lib.hid (join_any 0 m w3 htb3.t.2)
        rw [HJ0.out] at HJ
        obtain ⟨qa, qc, hqe, -, -⟩ := ht3.qr.sl
        rw [show (exS S s true).qu s = [] from (HX.out.mem.no s HEX.out).2.2] at hqe
        have c8 := ht3.c8
        rw [hqe] at c8
        obtain ⟨W4, hW4⟩ : ∃ W4, w3.alloc (.cells #[.int .i64 t, .string ⟨s.toArray⟩, .int .i64 m] 42) = W4 := ⟨_, rfl⟩
        have hb4 : Below w3.heap.size w3 W4 := by rw [← hW4]; exact (Below.refl _ _).alloc (Nat.le_refl _) _
        have hx4 : W4.heap[w3.heap.size]? = some (.cells #[.int .i64 t, .string ⟨s.toArray⟩, .int .i64 m] 42 (0, 0)) := by rw [← hW4]; exact heap_alloc_new w3 _
        have f0 : W4.cell? ⟨w3.heap.size, 0, none⟩ = some (.int .i64 t) := by rw [cell_of_block hx4]; rfl
        have f1 : W4.cell? ⟨w3.heap.size, 1, none⟩ = some (.string ⟨s.toArray⟩) := by rw [cell_of_block hx4]; rfl
        have f2 : W4.cell? ⟨w3.heap.size, 2, none⟩ = some (.int .i64 m) := by rw [cell_of_block hx4]; rfl
        have c8' := cell_lt c8 hb4
        have ht4 := ht3.below hb4
        obtain ⟨b1, b2, b3, b4, b5⟩ := HBN.out
        have hZ := HZ.out
        have hadm := admits_any ht4 (htb3.below hb4).t t m b1 b2 (fun k => by have := b3 k; show S.cn s k ≤ _; omega)
        rw [show admB mds ((exS S s true).cn s) ((exS S s true).md s t) m = true from by rw [← HN.out.2.2 m]; exact HX.out.adm s t m] at hadm
        have HADM := Lib.hid hadm
        have hGR : ∀ (wx : World), Below W4.heap.size W4 wx → Calls Tryz.prog 21 #[.pointer (some ⟨L.tb, 0, none⟩), .pointer (some ⟨g, 0, none⟩), encL ⟨t, s, m⟩] wx fun e w' => e = .returned (.tuple #[]) ∧ P (.returned (.int .i64 1)) w' := by
          intro wx hbx
          have hMx := (hM3.below hb4).below hbx
          have hg := grant_any hMx ⟨t, s, m⟩ hexs b1 b2 (fun k => by have := b3 k; show S.cn s k ≤ _; omega) (mds_pos _ HM.out).1 (mds_pos _ HM.out).2 (by show (S.hs t).length ≤ _; omega)
          rw [hL3, show L3.tg (⟨t, s, m⟩ : Lv).res = g from hg3] at hg
          refine hg.mono ?_
          rintro e w' ⟨rfl, own6, L6, hL6, hM6, hS6⟩
          refine ⟨rfl, ?_⟩
          rw [← HP.out]
          have hst := ((HS1.out.trans hS3).trans (Stp.of_below (own := own3) (hb4.trans (hbx.mono hb4.size)))).trans hS6
          have hjm : jnI (mdO T.hv t s) m = m := by rw [HN.out.1]; exact HJ0.out
          obtain ⟨r1, r2⟩ := ask_gives HX.out (S1 := exS S s true) (rx := [s]) t s m (HX.out.rel.rxn (s := s)) (.inr rfl) HWN.out HM.out (by rw [hjm, HN.out.1]; exact mds.pos m HM.out) ⟨HN.out.2.2 _, .inr HN.out.2.1⟩ (by rw [hjm]; exact hM6) (hst.hi HX.out.hi) (HX.out.mem.tb HX.out.tb hst)
          rw [r1]
          exact ⟨rfl, own6, L6, _, hL6.1.trans hL3, r2, hst⟩
        have HGR := Lib.hid hGR
        unfold encL at HGR
        have hlt3 : (0 : Int) < 1 := by decide
        clear hth hb2 hM3 hS3 hf3 ht3 htb3 b1 b2 b3 b4 b5 hZ hadm hGR ht4 hexs hx4 hg hmb hml
        go_wp2_with fail
        refine HJ.out.mono ?_
        rintro e w5 ⟨rfl, rfl⟩
        go_wp2_with fail
        try rw [hW4]
        refine HADM.out.mono ?_
        rintro e w5 ⟨rfl, hb5⟩
        have HG := Lib.hid (HGR.out w5 hb5)
        have f0' := cell_lt f0 hb5
        have f1' := cell_lt f1 hb5
        have f2' := cell_lt f2 hb5
        clear hb5 HGR hb4
        go_wp2_with fail
        refine HG.out.mono ?_
        rintro e w6 ⟨rfl, hp6⟩
        have HF := Lib.hid hp6
        clear hp6
        go_wp2_with fail
        exact HF.out
      | true =>
        have hlT' : (Instr.lookup 48 (.map (some L.bt)) (.string ⟨s.toArray⟩) false).run Tryz.prog W1 = .ok (.pointer (some ⟨L.tg s, 0, none⟩)) W1 := by rw [hlT, hex]; rfl
        have ht1 := h1.mem.th s hex
        have e0 := ht1.c0
        have hlk := ht1.look1 t
        obtain ⟨h0, hh0⟩ : ∃ k, mdO T.hv t s = k := ⟨_, rfl⟩
        rw [hmd, hh0] at hlk
        obtain ⟨j, hj⟩ : ∃ k, jnI h0 m = k := ⟨_, rfl⟩
        have hJ := join_any h0 m W1 h1.tb.t.2
        rw [hj] at hJ
        have HJ := Lib.hid hJ
        obtain ⟨qa, qc, hqe, -, -⟩ := ht1.qr.sl
        obtain ⟨n, hn⟩ : ∃ n, (S.qu s).length = n := ⟨_, rfl⟩
        rw [hn] at hqe
        have c8 := ht1.c8
        rw [hqe] at c8
        obtain ⟨W4, hW4⟩ : ∃ W4, W1.alloc (.cells #[.int .i64 t, .string ⟨s.toArray⟩, .int .i64 j] 42) = W4 := ⟨_, rfl⟩
        have hb4 : Below W1.heap.size W1 W4 := by rw [← hW4]; exact (Below.refl _ _).alloc (Nat.le_refl _) _
        have hx4 : W4.heap[W1.heap.size]? = some (.cells #[.int .i64 t, .string ⟨s.toArray⟩, .int .i64 j] 42 (0, 0)) := by rw [← hW4]; exact heap_alloc_new W1 _
        have f0 : W4.cell? ⟨W1.heap.size, 0, none⟩ = some (.int .i64 t) := by rw [cell_of_block hx4]; rfl
        have f1 : W4.cell? ⟨W1.heap.size, 1, none⟩ = some (.string ⟨s.toArray⟩) := by rw [cell_of_block hx4]; rfl
        have f2 : W4.cell? ⟨W1.heap.size, 2, none⟩ = some (.int .i64 j) := by rw [cell_of_block hx4]; rfl
        have c8' := cell_lt c8 hb4
        have g2' := cell_lt d2 hb4
        have h4 := h1.below hb4
        have HX4 := Lib.hid h4
        have HLB := Lib.hid (Array.getElem?_eq_some_iff.1 hx4).1
        have HB4 := Lib.hid hb4
        have HS4 := Lib.hid (HS1.out.trans (Stp.of_below (own := own) hb4))
        have HEX := Lib.hid hex
        have HH0 := Lib.hid hh0
        have HJE := Lib.hid hj
        have hn0 : ¬ (mds.right m = false ∨ (wsh T.wt t).isSome = true) := by
          rintro (e | e)
          · have : mrg m = false := e
            rw [hm] at this; cases this
          · rw [← h.rel.ws, HWN.out] at e; cases e
        have HN0 := Lib.hid hn0
        have hjm : jnI (mdO T.hv t s) m = j := by rw [hh0]; exact hj
        have HJM := Lib.hid hjm
        rw [hjm] at hjr
        have HJR := Lib.hid hjr
        have hadm := admits_any (h4.mem.th s hex) h4.tb.t t j b1 b2 (fun k => by have := b3 k; omega)
        rw [h.adm s t j] at hadm
        have HQN : Hid (n = 0 ↔ que T.wt s = []) := by
          rw [← hn, h.rel.quE]
          exact List.length_eq_zero_iff
        have hGR : (can mds T.hv ⟨t, s, j⟩ = true ∧ (h0 ≠ 0 ∨ n = 0)) → ¬ j = h0 → ∀ (wx : World), Below W4.heap.size W4 wx → Calls Tryz.prog 21 #[.pointer (some ⟨L.tb, 0, none⟩), .pointer (some ⟨L.tg s, 0, none⟩), encL ⟨t, s, j⟩] wx fun e w' => e = .returned (.tuple #[]) ∧ P (.returned (.int .i64 1)) w' := by
          intro hcan hne wx hbx
          have hg := grant_any (h4.mem.below hbx) ⟨t, s, j⟩ hex b1 b2 (fun k => by have := b3 k; show S.cn s k ≤ _; omega) (mds_pos _ hjr).1 (mds_pos _ hjr).2 (by show (S.hs t).length ≤ _; omega)
          refine hg.mono ?_
          rintro e w' ⟨rfl, own6, L6, hL6, hM6, hS6⟩
          refine ⟨rfl, ?_⟩
          rw [← HP.out]
          have hst := (HS4.out.trans (Stp.of_below (own := own) hbx)).trans hS6
          obtain ⟨r1, r2⟩ := ask_gives HX.out (S1 := S) (rx := []) t s m HX.out.rel (.inl rfl) HWN.out HM.out (by rw [hjm, hh0]; exact hne) ⟨by rw [hjm]; exact hcan.1, by rw [hh0, ← HQN.out]; exact hcan.2⟩ (by rw [hjm]; exact hM6) (hst.hi HX.out.hi) (HX.out.mem.tb HX.out.tb hst)
          rw [r1]
          exact ⟨rfl, own6, L6, _, hL6.1, r2, hst⟩
        have HGR := Lib.hid hGR
        unfold encL at HGR
        -- the wish is put
        have hWT : ¬ (can mds T.hv ⟨t, s, j⟩ = true ∧ (h0 ≠ 0 ∨ n = 0)) → ¬ j = h0 → ∀ (wx : World), Below W4.heap.size W4 wx → ∃ w7, (Instr.mapUpdate 50 (.map (some L.bw)) (.int .i64 t) (encL ⟨t, s, j⟩)).run Tryz.prog wx.drew = .ok () w7 ∧ (w7.cell? ⟨W1.heap.size, 0, none⟩ = some (.int .i64 t) ∧ w7.cell? ⟨W1.heap.size, 1, none⟩ = some (.string ⟨s.toArray⟩) ∧ w7.cell? ⟨W1.heap.size, 2, none⟩ = some (.int .i64 j)) ∧ Hid (Calls Tryz.prog 22 #[.pointer (some ⟨L.tg s, 0, none⟩), encL ⟨t, s, j⟩] w7 fun e w' => e = .returned (.tuple #[]) ∧ P (.returned (.int .i64 2)) w') := by
          intro hcan hne wx hbx
          have hbd : Below W4.heap.size W4 wx.drew := hbx.drew
          obtain ⟨w7, hrun, hM7, hf7⟩ := (h4.mem.below hbd).putW t ⟨t, s, j⟩
          have hob : own W1.heap.size = .none := Classical.byContradiction fun c => by have := h1.hi _ c; omega
          have hnb : ¬ W1.heap.size = L.bw := fun e => by rw [e, h4.mem.obw] at hob; cases hob
          have hlb : W1.heap.size < wx.drew.heap.size := Nat.lt_of_lt_of_le HLB.out hbd.size
          have hS7 : Stp w own w7 own := (HS4.out.trans (Stp.of_below (own := own) hbd)).trans (Stp.of_frm hf7 (fun k hk e => by rw [hk, h4.mem.obw] at e; cases e))
          refine ⟨w7, hrun, ⟨(hf7.cell hlb hnb 0).trans (cell_lt f0 hbd), (hf7.cell hlb hnb 1).trans (cell_lt f1 hbd), (hf7.cell hlb hnb 2).trans (cell_lt f2 hbd)⟩, ?_⟩
          refine (wait_any (hM7.th s hex) hM7.bB (by show (S.qu s).length ≤ _; omega) ⟨t, s, j⟩).mono ?_
          rintro e w8 ⟨qv', rfl, hth8, hnw, hf8⟩
          refine ⟨rfl, ?_⟩
          obtain ⟨g1, g2⟩ := hM7.upd hex hf8 (fun k hk => by rcases hk with e | e; (left; rw [e]; exact hM7.otg s hex); (right; right; exact hM7.otq s hex k e)) hth8 hnw
          have hst := hS7.trans g2
          rw [← HP.out]
          have hw' : wsh T.wt (⟨t, s, j⟩ : Lv).txn = none := by rw [← HX.out.rel.ws]; exact HWN.out
          have he := ask_wait ordT mds (T := T) (t := t) (s := s) (m := m) hn0 (by show jnI (mdO T.hv t s) m ≠ _; rw [hjm, hh0]; exact hne) (by
            show ¬ (can mds T.hv ⟨t, s, jnI (mdO T.hv t s) m⟩ = true ∧ _)
            rw [hjm, hh0, ← HQN.out]; exact hcan)
          have hi := HX.out.inv.ask ordT mds t s m
          have hr := HX.out.rel.wait ordT mds HX.out.inv hw'
          rw [he] at hi ⊢
          have e4 : mds.jn (mdO T.hv t s) m = j := hjm
          rw [e4] at hi ⊢
          refine ⟨rfl, _, updL L s qv', _, rfl, ⟨g1.congr (S' := waitS S ⟨t, s, j⟩) (fun s' u => ?_) (fun s' k => ?_) (fun s' => ?_) (fun _ => rfl) (fun _ => rfl) (fun u => rfl), hst.hi HX.out.hi, HX.out.mem.tb HX.out.tb hst, hr, hi⟩, hst⟩
          · show S.md s' u = (if s' = s then S.md s else S.md s') u
            by_cases c : s' = s
            · rw [if_pos c, c]
            · rw [if_neg c]
          · show S.cn s' k = (if s' = s then S.cn s else S.cn s') k
            by_cases c : s' = s
            · rw [if_pos c, c]
            · rw [if_neg c]
          · show (if s' = s then waitQ (S.md s') (S.qu s') ⟨t, s, j⟩ else S.qu s') = if s' = s then waitQ (S.md s) (S.qu s) ⟨t, s, j⟩ else S.qu s'
            by_cases c : s' = s
            · rw [if_pos c, if_pos c, c]
            · rw [if_neg c, if_neg c]
        have HWT := Lib.hid hWT
        unfold encL at HWT
        obtain ⟨bb, hbb⟩ : ∃ b, can mds T.hv ⟨t, s, j⟩ = b := ⟨_, rfl⟩
        rw [hbb] at hadm HGR HWT
        have HADM := Lib.hid hadm
        have HSAME := Lib.hid (fun (he : j = h0) => show P (.returned (.int .i64 1)) W4 by
          rw [← HP.out]
          have e := ask_same ordT mds (T := T) (t := t) (s := s) (m := m) hn0 (by show jnI (mdO T.hv t s) m = _; rw [hjm, hh0]; exact he)
          rw [e]
          exact ⟨rfl, own, L, S, rfl, h4, HS4.out⟩)
        clear hlT h h1 hb1 cw cw' hl0 hm hmd hjr b1 b2 b3 b4 b5 hex hZ HREF ht1 hh0 hj hJ hn hqe hx4 h4 hb4 hn0 hjm hadm hGR hWT hbb hW1
        by_cases hjh : j = h0
        · have HF := Lib.hid (HSAME.out hjh)
          subst hjh
          clear HGR HWT HADM HSAME
          go_enter Tryz.func6, Tryz.ntmps6
          go_upto_region 2 with fail
          try rw [HW1.out]
          go_wp2_with fail
          refine HRT.out.mono ?_
          rintro e w2 ⟨rfl, rfl⟩
          go_wp2_with fail
          refine HJ.out.mono ?_
          rintro e w5 ⟨rfl, rfl⟩
          go_wp2_with fail
          try rw [hW4]
          exact HF.out
        · have hjh1 : (j == h0) = false := by simpa using hjh
          clear HSAME
          by_cases hz : h0 = 0
          · by_cases hnz : n = 0
            · subst hz hnz
              cases bb with
              | true =>
                go_enter Tryz.func6, Tryz.ntmps6
                go_upto_region 2 with fail
                try rw [HW1.out]
                go_wp2_with fail
                refine HRT.out.mono ?_
                rintro e w2 ⟨rfl, rfl⟩
                go_wp2_with fail
                refine HJ.out.mono ?_
                rintro e w5 ⟨rfl, rfl⟩
                go_wp2_with fail
                try rw [hW4]
                refine HADM.out.mono ?_
                rintro e w5 ⟨rfl, hb5⟩
                have f0' := cell_lt f0 hb5
                have f1' := cell_lt f1 hb5
                have f2' := cell_lt f2 hb5
                have g2'' := cell_lt g2' hb5
                have HG := Lib.hid (HGR.out (by simp) hjh w5 hb5)
                clear hb5 HGR HWT
                go_wp2_with fail
                refine HG.out.mono ?_
                rintro e w6 ⟨rfl, hp6⟩
                have HF := Lib.hid hp6
                clear hp6
                go_wp2_with fail
                exact HF.out
              | false =>
                go_enter Tryz.func6, Tryz.ntmps6
                go_upto_region 2 with fail
                try rw [HW1.out]
                go_wp2_with fail
                refine HRT.out.mono ?_
                rintro e w2 ⟨rfl, rfl⟩
                go_wp2_with fail
                refine HJ.out.mono ?_
                rintro e w5 ⟨rfl, rfl⟩
                go_wp2_with fail
                try rw [hW4]
                refine HADM.out.mono ?_
                rintro e w5 ⟨rfl, hb5⟩
                have f0' := cell_lt f0 hb5
                have f1' := cell_lt f1 hb5
                have f2' := cell_lt f2 hb5
                have g2'' := cell_lt g2' hb5
                obtain ⟨w7, hrun7, ⟨k0, k1, k2⟩, HW7⟩ := HWT.out (by rintro ⟨e, -⟩; cases e) hjh w5 hb5
                clear HGR HWT
                go_upto_region 15 with fail
                go_region_with fail
                all_goals
                  go_wp2_with fail
                  refine HW7.out.mono ?_
                  rintro e w8 ⟨rfl, hp8⟩
                  have HF := Lib.hid hp8
                  clear hp8
                  go_wp2_with fail
                  exact HF.out
            · have hn1 : ¬ (n : Int) = 0 := by omega
              have hn2 : ((n : Int) == 0) = false := by simpa using hn1
              subst hz
              go_enter Tryz.func6, Tryz.ntmps6
              go_upto_region 2 with fail
              try rw [HW1.out]
              go_wp2_with fail
              refine HRT.out.mono ?_
              rintro e w2 ⟨rfl, rfl⟩
              go_wp2_with fail
              refine HJ.out.mono ?_
              rintro e w5 ⟨rfl, rfl⟩
              go_wp2_with fail
              try rw [hW4]
              obtain ⟨w7, hrun7, ⟨k0, k1, k2⟩, HW7⟩ := HWT.out (by rintro ⟨-, e | e⟩; exact e rfl; exact hnz e) hjh W4 (Below.refl _ _)
              clear HGR HWT
              go_upto_region 15 with fail
              go_region_with fail
              all_goals
                go_wp2_with fail
                refine HW7.out.mono ?_
                rintro e w8 ⟨rfl, hp8⟩
                have HF := Lib.hid hp8
                clear hp8
                go_wp2_with fail
                exact HF.out
          · have hz1 : (h0 != 0) = true := by simpa using hz
            cases bb with
            | true =>
              go_enter Tryz.func6, Tryz.ntmps6
              go_upto_region 2 with fail
              try rw [HW1.out]
              go_wp2_with fail
              refine HRT.out.mono ?_
              rintro e w2 ⟨rfl, rfl⟩
              go_wp2_with fail
              refine HJ.out.mono ?_
              rintro e w5 ⟨rfl, rfl⟩
              go_wp2_with fail
              try rw [hW4]
              refine HADM.out.mono ?_
              rintro e w5 ⟨rfl, hb5⟩
              have f0' := cell_lt f0 hb5
              have f1' := cell_lt f1 hb5
              have f2' := cell_lt f2 hb5
              have g2'' := cell_lt g2' hb5
              have HG := Lib.hid (HGR.out (by simp [hz]) hjh w5 hb5)
              clear hb5 HGR HWT
              go_wp2_with fail
              refine HG.out.mono ?_
              rintro e w6 ⟨rfl, hp6⟩
              have HF := Lib.hid hp6
              clear hp6
              go_wp2_with fail
              exact HF.out
            | false =>
              go_enter Tryz.func6, Tryz.ntmps6
              go_upto_region 2 with fail
              try rw [HW1.out]
              go_wp2_with fail
              refine HRT.out.mono ?_
              rintro e w2 ⟨rfl, rfl⟩
              go_wp2_with fail
              refine HJ.out.mono ?_
              rintro e w5 ⟨rfl, rfl⟩
              go_wp2_with fail
              try rw [hW4]
              refine HADM.out.mono ?_
              rintro e w5 ⟨rfl, hb5⟩
              have f0' := cell_lt f0 hb5
              have f1' := cell_lt f1 hb5
              have f2' := cell_lt f2 hb5
              have g2'' := cell_lt g2' hb5
              obtain ⟨w7, hrun7, ⟨k0, k1, k2⟩, HW7⟩ := HWT.out (by rintro ⟨e, -⟩; cases e) hjh w5 hb5
              clear HGR HWT
              go_upto_region 15 with fail
              go_region_with fail
              all_goals
                go_wp2_with fail
                refine HW7.out.mono ?_
                rintro e w8 ⟨rfl, hp8⟩
                have HF := Lib.hid hp8
                clear hp8
                go_wp2_with fail
                exact HF.out
end

end Go.Proofs.YtelfinhpjokmdaaGreatDoor

namespace Go.Proofs.YtelfinhpjokmdaaGreatDoor
set_option maxRecDepth 100000
set_option linter.unusedVariables false
set_option linter.unusedSectionVars false
set_option linter.unnecessarySimpa false
set_option linter.unusedSimpArgs false

section
variable {R : Type} [DecidableEq R] (O : OrdR R) (M : Mds)
/-- a state in which a transaction has no row and no wish -/
def gaveS (S : TS R) (t : Int) : TS R where
  md := S.md
  cn := S.cn
  qu := S.qu
  ex := S.ex
  hs u := if u = t then [] else S.hs u
  ws u := if u = t then none else S.ws u
theorem cnt_out {H : List (Lk R)} (t : Int) (s : R) (m : Int) : cntM (H.filter fun h => !decide (h.txn = t)) s m = cntM (butL H t s) s m := by
  unfold cntM butL
  rw [List.countP_filter, List.countP_filter]
  refine List.countP_congr fun x _ => ?_
  by_cases c1 : x.res = s <;> by_cases c2 : x.txn = t <;> simp [c1, c2]
theorem RelT.out {T : TbL R} {S : TS R} (h : RelT T S) (hi : InvL O M T) (t : Int) : RelP (outL T t) (gaveS S t) t (thg O T t) (thg O T t) (fun s => mdO T.hv t s) := by
  have hb := hi.bas (O := O) (M := M)
  have hmem : ∀ s, s ∈ thg O T t ↔ (∃ h ∈ T.hv, h.txn = t ∧ h.res = s) ∨ ∃ w ∈ T.wt, w.l.txn = t ∧ w.l.res = s := fun s => mem_thg O hi.one
  have hmd0 : ∀ s, mdO (outL T t).hv t s = 0 := fun s => mdO_none fun x hx e => by
    have := (List.mem_filter.1 hx).2
    simp [e.1] at this
  refine ⟨fun s u => ?_, fun s m => ?_, fun s hs => ?_, fun s hs => ?_, fun s => ?_, fun u => ?_, fun u s => ?_, fun u => ?_⟩
  · show S.md s u = _
    rw [h.mdE]
    by_cases c : u = t
    · subst c
      by_cases c2 : s ∈ thg O T u
      · rw [if_pos ⟨c2, rfl⟩]
      · rw [if_neg (fun e => c2 e.1), hmd0]
        refine mdO_none fun x hx e => c2 ((hmem s).2 (.inl ⟨x, hx, e.1, e.2⟩))
    · rw [if_neg (fun e => c e.2)]
      exact (mdO_out t c).symm
  · show S.cn s m = cntM (T.hv.filter fun h => !decide (h.txn = t)) s (m : Int) + _
    have h0 : S.cn s m = cntM T.hv s (m : Int) := by rw [h.cn, if_neg (fun e => by cases e.1), Nat.add_zero]
    rw [h0, cnt_out]
    by_cases z : m = 0
    · subst z
      have e1 : cntM T.hv s ((0 : Nat) : Int) = 0 := Nat.eq_zero_of_not_pos fun hc => by
        obtain ⟨x, hx, -, e⟩ := cnt_pos.1 hc
        exact hb.nz O M x hx e
      have e2 : cntM (butL T.hv t s) s ((0 : Nat) : Int) = 0 := Nat.eq_zero_of_not_pos fun hc => by
        obtain ⟨x, hx, -, e⟩ := cnt_pos.1 hc
        exact hb.nz O M x (mem_butL.1 hx).1 e
      rw [e1, e2, if_neg (fun e => e.2.2 e.2.1)]
    · rw [cnt_but O hb.srt (hb.nz O M) t s (m := (m : Int)) (by omega)]
      by_cases c : mdO T.hv t s = (m : Int)
      · have c2 : s ∈ thg O T t := (hmem s).2 (.inl ((has_iff O hb.srt (hb.nz O M) t s).2 (by rw [c]; omega)))
        rw [if_pos c, if_pos ⟨c2, c, by show mdO T.hv t s ≠ 0; rw [c]; omega⟩]
      · rw [if_neg c, if_neg (fun e => c e.2.1)]
  · show (S.qu s).filter _ = que (fgt T.wt t) s
    rw [h.quE, que_fgt]
  · show S.qu s = que (fgt T.wt t) s
    rw [h.quE]
    exact (que_other hi.one fun w hw e g => hs ((hmem s).2 (.inr ⟨w, hw, e, g⟩))).symm
  · show S.ex s = true ↔ s ∈ thg O T t ∨ ∃ x ∈ T.hv.filter _, x.res = s
    rw [h.ex]
    constructor
    · rintro (e | ⟨x, hx, e⟩)
      · cases e
      · by_cases c : x.txn = t
        · exact .inl ((hmem s).2 (.inl ⟨x, hx, c, e⟩))
        · exact .inr ⟨x, List.mem_filter.2 ⟨hx, by simpa using c⟩, e⟩
    · rintro (e | ⟨x, hx, e⟩)
      · right
        rcases (hmem s).1 e with ⟨x, hx, -, e2⟩ | ⟨w, hw, -, e2⟩
        · exact ⟨x, hx, e2⟩
        · obtain ⟨l, q, hq⟩ : ∃ l q, que T.wt s = l :: q := by
            have : w.l ∈ que T.wt s := mem_que.2 ⟨e2, w, hw, rfl⟩
            cases hq : que T.wt s with
            | nil => rw [hq] at this; cases this
            | cons l q => exact ⟨l, q, rfl⟩
          have hbar := hi.bar s l q hq
          have hlr := (mem_que.1 (show l ∈ que T.wt s by rw [hq]; exact List.mem_cons_self ..)).1
          rw [Bool.eq_false_iff, ne_eq, can_iff] at hbar
          obtain ⟨y, g⟩ := Classical.not_forall.1 hbar
          obtain ⟨y1, g⟩ := Classical.not_forall.1 g
          obtain ⟨y2, -⟩ := Classical.not_forall.1 g
          exact ⟨y, y1, y2.trans hlr⟩
      · exact .inr ⟨x, (List.mem_filter.1 hx).1, e⟩
  · show (if u = t then [] else S.hs u).Nodup
    split
    · exact List.nodup_nil
    · exact h.nd u
  · show s ∈ (if u = t then [] else S.hs u) ↔ ∃ x ∈ T.hv.filter _, x.txn = u ∧ x.res = s
    by_cases c : u = t
    · rw [if_pos c]
      refine ⟨(fun e => by cases e), fun ⟨x, hx, e, _⟩ => ?_⟩
      have := (List.mem_filter.1 hx).2
      simp [e, c] at this
    · rw [if_neg c, h.hs]
      constructor
      · rintro ⟨x, hx, e1, e2⟩
        exact ⟨x, List.mem_filter.2 ⟨hx, by simp [e1, c]⟩, e1, e2⟩
      · rintro ⟨x, hx, e⟩
        exact ⟨x, (List.mem_filter.1 hx).1, e⟩
  · show (if u = t then none else S.ws u) = wsh (fgt T.wt t) u
    rw [wsh_fgt, h.ws]
/-- a thing left: its lock and its wish are out -/
def leftS (S : TS R) (s : R) (t : Int) : TS R where
  md s' u := if s' = s ∧ u = t then 0 else S.md s' u
  cn s' := if s' = s then othC (S.cn s) (S.md s t) else S.cn s'
  qu s' := if s' = s then (S.qu s).filter (fun l => !decide (l.txn = t)) else S.qu s'
  ex := S.ex
  hs := S.hs
  ws := S.ws
theorem RelP.leave {T : TbL R} {S : TS R} {t : Int} {rest rx : List R} {s : R} {m0 : R → Int} (h : RelP T S t (s :: rest) rx m0) (hs : s ∉ rest) (h0 : ∀ s', mdO T.hv t s' = 0) (hpos : ∀ s', 0 ≤ m0 s') : RelP T (leftS S s t) t rest rx m0 := by
  have hin : s ∈ s :: rest := List.mem_cons_self ..
  have hne : ∀ s', s' ≠ s → (s' ∈ s :: rest ↔ s' ∈ rest) := fun s' c => by rw [List.mem_cons]; exact ⟨fun e => e.resolve_left c, .inr⟩
  refine ⟨fun s' u => ?_, fun s' m => ?_, fun s' hs' => ?_, fun s' hs' => ?_, h.ex, h.nd, h.hs, h.ws⟩
  · show (if s' = s ∧ u = t then 0 else S.md s' u) = _
    by_cases c : s' = s
    · subst c
      by_cases c2 : u = t
      · rw [if_pos ⟨rfl, c2⟩, if_neg (fun e => hs e.1), c2, h0]
      · rw [if_neg (fun e => c2 e.2), if_neg (fun e => c2 e.2), h.md, if_neg (fun e => c2 e.2)]
    · rw [if_neg (fun e => c e.1), h.md]
      by_cases c2 : s' ∈ rest ∧ u = t
      · rw [if_pos c2, if_pos ⟨(hne s' c).2 c2.1, c2.2⟩]
      · rw [if_neg c2, if_neg (fun e => c2 ⟨(hne s' c).1 e.1, e.2⟩)]
  · show (if s' = s then othC (S.cn s) (S.md s t) else S.cn s') m = _
    by_cases c : s' = s
    · subst c
      have hm : S.md s' t = m0 s' := by rw [h.md, if_pos ⟨hin, rfl⟩]
      rw [if_pos rfl, if_neg (fun e => hs e.1), Nat.add_zero]
      unfold othC
      rw [hm, h.cn]
      by_cases z : m0 s' = (m : Int) ∧ m0 s' ≠ 0
      · rw [if_pos ⟨hin, z⟩, if_pos ⟨z.2, z.1⟩]; omega
      · rw [if_neg (fun e => z e.2), if_neg (fun e => z ⟨e.2, e.1⟩)]; omega
    · rw [if_neg c, h.cn]
      congr 1
      by_cases c2 : s' ∈ rest ∧ m0 s' = (m : Int) ∧ m0 s' ≠ 0
      · rw [if_pos c2, if_pos ⟨(hne s' c).2 c2.1, c2.2⟩]
      · rw [if_neg c2, if_neg (fun e => c2 ⟨(hne s' c).1 e.1, e.2⟩)]
  · have c : s' ≠ s := fun e => hs (e ▸ hs')
    show (if s' = s then _ else S.qu s').filter _ = _
    rw [if_neg c]
    exact h.qr s' ((hne s' c).2 hs')
  · show (if s' = s then _ else S.qu s') = _
    by_cases c : s' = s
    · subst c
      rw [if_pos rfl]
      exact h.qr s' hin
    · rw [if_neg c]
      exact h.qu s' (fun e => hs' ((hne s' c).1 e))
/-- a thing that nobody has goes -/
theorem RelP.rxf {T : TbL R} {S : TS R} {t : Int} {rest rx : List R} {s : R} {m0 : R → Int} (h : RelP T S t rest (s :: rx) m0) (hs : ∀ x ∈ T.hv, x.res ≠ s) (hrx : s ∉ rx) : RelP T ⟨S.md, S.cn, S.qu, fun s' => if s' = s then false else S.ex s', S.hs, S.ws⟩ t rest rx m0 :=
  ⟨h.md, h.cn, h.qr, h.qu, fun s' => by
    show (if s' = s then false else S.ex s') = true ↔ _
    by_cases c : s' = s
    · rw [if_pos c]
      constructor
      · intro e; cases e
      · rintro (e | ⟨x, hx, e⟩)
        · rw [c] at e; exact absurd e hrx
        · exact absurd (e.trans c) (hs x hx)
    · rw [if_neg c, h.ex, List.mem_cons]
      constructor
      · rintro ((e | e) | e)
        · exact absurd e c
        · exact .inl e
        · exact .inr e
      · rintro (e | e)
        · exact .inl (.inr e)
        · exact .inr e, h.nd, h.hs, h.ws⟩
/-- whether somebody has a thing, told by the modes -/
theorem RelP.any {T : TbL R} {S : TS R} {t : Int} {rest rx : List R} {m0 : R → Int} (h : RelP T S t rest rx m0) (hb : BasL O M T) {s : R} (hs : s ∉ rest) : (∃ x ∈ T.hv, x.res = s) ↔ ∃ u, S.md s u ≠ 0 := by
  have hm : ∀ u, S.md s u = mdO T.hv u s := fun u => by rw [h.md, if_neg (fun e => hs e.1)]
  constructor
  · rintro ⟨x, hx, e⟩
    exact ⟨x.txn, by rw [hm]; exact (has_iff O hb.srt (hb.nz O M) x.txn s).1 ⟨x, hx, rfl, e⟩⟩
  · rintro ⟨u, hu⟩
    rw [hm] at hu
    obtain ⟨x, hx, -, e⟩ := (has_iff O hb.srt (hb.nz O M) u s).2 hu
    exact ⟨x, hx, e⟩
theorem RelP.none {T : TbL R} {S : TS R} {t : Int} {rest rx : List R} {m0 : R → Int} (h : RelP T S t rest rx m0) (hb : BasL O M T) {s : R} (hs : s ∉ rest) (hbar : BarL M T s) (hn : ∀ u, S.md s u = 0) : (∀ x ∈ T.hv, x.res ≠ s) ∧ (S.md s = fun _ => 0) ∧ (S.cn s = fun _ => 0) ∧ S.qu s = [] := by
  have hno : ∀ x ∈ T.hv, x.res ≠ s := fun x hx e => by
    obtain ⟨u, hu⟩ := (h.any O M hb hs).1 ⟨x, hx, e⟩
    exact hu (hn u)
  refine ⟨hno, funext hn, funext fun m => ?_, ?_⟩
  · rw [h.cn, if_neg (fun e => hs e.1), Nat.add_zero]
    exact Nat.eq_zero_of_not_pos fun hc => by
      obtain ⟨x, hx, e, -⟩ := cnt_pos.1 hc
      exact hno x hx e
  · rw [h.qu s hs]
    cases hq : que T.wt s with
    | nil => rfl
    | cons l q =>
      have := hbar l q hq
      have hr := (mem_que.1 (show l ∈ que T.wt s by rw [hq]; exact List.mem_cons_self ..)).1
      rw [Bool.eq_false_iff] at this
      exact absurd ((can_iff M).2 fun x hx e _ => absurd (e.trans hr) (hno x hx)) this
theorem out_siz (T : TbL R) (t : Int) : sizT (outL T t) ≤ sizT T := by
  unfold sizT outL fgt
  have h1 := List.length_filter_le (fun h : Lk R => !decide (h.txn = t)) T.hv
  have h2 := List.length_filter_le (fun w : Ws R => !decide (w.l.txn = t)) T.wt
  show (T.hv.filter _).length + (T.wt.filter _).length ≤ _
  omega
theorem stl_siz (s : R) : ∀ (q : List (Lk R)) (T : TbL R) (out : List Int), BasL O M T → que T.wt s = q → sizT (stl O M q T out).1 ≤ sizT T
  | [], T, out, h, hq => Nat.le_refl _
  | l :: q, T, out, h, hq => by
    unfold stl
    by_cases c : can M T.hv l = true
    · rw [if_pos c]
      exact Nat.le_trans (stl_siz s q _ _ (h.grant O M hq c) (que_head h.one hq)) (siz_pop O hq)
    · rw [if_neg c]; exact Nat.le_refl _
theorem fold_siz : ∀ (ths : List R) (T : TbL R) (out : List Int), BasL O M T → sizT (ths.foldl (fun p s => stl O M (que p.1.wt s) p.1 p.2) (T, out)).1 ≤ sizT T
  | [], T, out, h => Nat.le_refl _
  | s :: r, T, out, h => by
    rw [List.foldl_cons]
    have h2 := (stl_inv O M s (fun _ => True) (que T.wt s) T out h rfl (fun _ _ g => absurd trivial g)).1
    exact Nat.le_trans (fold_siz r _ _ h2) (stl_siz O M s (que T.wt s) T out h rfl)
theorem siz_drop {T : TbL R} (h : InvL O M T) (t : Int) : sizT (dropL O M T t).1 ≤ sizT T :=
  Nat.le_trans (fold_siz O M (thg O T t) (outL T t) [] (h.out O M t)) (out_siz T t)
/-- what settles goes behind what came -/
theorem stl_app : ∀ (q : List (Lk R)) (T : TbL R) (out : List Int), stl O M q T out = ((stl O M q T []).1, out ++ (stl O M q T []).2)
  | [], T, out => by simp [stl]
  | l :: q, T, out => by
    unfold stl
    by_cases c : can M T.hv l = true
    · rw [if_pos c, if_pos c, stl_app q _ (out ++ [l.txn]), stl_app q _ ([] ++ [l.txn])]
      simp
    · rw [if_neg c, if_neg c]
      simp
end

end Go.Proofs.YtelfinhpjokmdaaGreatDoor

namespace Go.Proofs.YtelfinhpjokmdaaGreatDoor
set_option maxRecDepth 100000
open Go.RowKit Go.Joins Go.ChangeShapes Go.WideShapes
open Go.MapKept
set_option linter.unusedVariables false
set_option linter.unnecessarySimpa false
set_option linter.unusedSimpArgs false

theorem run_append0 (w : World) (ty : TypeId) (base : Option Addr) (n cap : Nat) (hle : n ≤ cap) (a : Option Addr) (c : Nat) : (Builtin.append_ #[35, 35] ty #[.slice base n cap, .slice a 0 c]).run Tryz.prog w = .ok (.slice base n cap) w := by
  obtain ⟨i0, hi, hz0, hz1, hz2⟩ := info_parts infoI
  cases base <;> cases a <;> simp [Builtin.append_, run_underlying Tryz.underlying35, sizeOf, typeInfo, hi, Builtin.lenOf, Builtin.firstCells, hle, storeCells, loadCells, loadCellsFrom]
/-- whole numbers put behind whole numbers -/
theorem run_pushI {w : World} {B B' : Nat} {v u : Value} {l r : List Int} (h : QI w B v l) (hB : B ≤ w.heap.size) (hr : QI w B' u r) (hsz : l.length + r.length ≤ 8796093022208) (ty : TypeId) :
    ∃ v' w', (Builtin.append_ #[35, 35] ty #[v, u]).run Tryz.prog w = .ok v' w' ∧ QI w' B v' (l ++ r) ∧ w.grownBy w' v.ownBlock ∧ NewO w v v' := by
  obtain ⟨i0, hi, hz0, hz1, hz2⟩ := info_parts infoI
  by_cases c : r = []
  · subst c
    obtain ⟨a, cap, rfl, h1, -, -⟩ := QR.form h
    obtain ⟨a2, cap2, rfl, -⟩ := QR.form hr
    rw [icells_length] at h1 ⊢
    refine ⟨_, _, run_append0 w ty _ _ _ h1 _ _, by rw [List.append_nil]; unfold QI at h; rw [icells_length] at h; exact h, ⟨rfl, rfl, rfl, Nat.le_refl _, fun _ _ _ => rfl⟩, fun k hk => .inl hk⟩
  · have hp : 0 < (icells r).length := by rw [icells_length]; cases r with | nil => exact absurd rfl c | cons a r => simp
    obtain ⟨ga, oa, ca, rfl, -, -, -, -, -, hnews⟩ := QR.at hr hp
    have hnews' : ∀ j u, (icells r)[j]? = some u → w.cell? ((⟨ga, oa, none⟩ : Addr).add j) = some u := fun j u hj => by
      have ea : (⟨ga, oa, none⟩ : Addr).add j = ⟨ga, oa + j, none⟩ := by unfold Addr.add; split <;> simp_all
      rw [ea]; exact hnews j u hj
    have hone : ∀ u ∈ icells r, u.oneCell' = true := by
      intro u hu
      obtain ⟨n, -, rfl⟩ := List.mem_map.1 hu
      rfl
    rw [icells_length] at hp ⊢
    have hml : l.length + r.length ≤ maxLen := by unfold maxLen; omega
    have happ : ∀ {v'} {w'} {B0 : Nat}, w'.ownsRow B0 3 1 v' (l.length + r.length) (icells l ++ icells r) → B ≤ B0 → QI w' B v' (l ++ r) := fun ho hb => by
      unfold QI
      rw [icells_app]
      exact (QR.of_own ho).le hb
    rcases h with ⟨rfl, hl⟩ | ⟨g, o, cap, cur, rfl, h2, h3, h4, h5, h6, h7⟩
    · have hl' : l = [] := by cases l with | nil => rfl | cons a b => simp [icells] at hl
      subst hl'
      obtain ⟨v', w', hrun, g1, g2, g3⟩ := run_append_own (P := Tryz.prog) w w.heap.size 35 ty 3 i0 _ 1 8 Tryz.underlying35 hi hz0 hz1 hz2 rfl (by decide) (.slice none 0 0) 0 [] (World.ownsRow_nil w _ _ 1) ⟨ga, oa, none⟩ r.length ca (icells r) (by rw [icells_length, Nat.mul_one]) hnews' hone (by simpa using hml) (by simp at hsz ⊢; omega) (Nat.le_refl _)
      exact ⟨v', w', hrun, by have := happ (by simpa [icells] using g1) hB; simpa using this, g2, fun k hk => .inr (g1.lt k hk).1⟩
    · rw [icells_length] at h4 ⊢
      by_cases hroom : l.length + r.length ≤ cap
      · have hg2 : w.heap[g]? = some (.cells cur.toList.toArray 3 (0, 0)) := by simpa using h3
        have hrun := run_append_room_cells (P := Tryz.prog) w 35 ty 3 i0 Tryz.underlying35 hi g o l.length cap ⟨ga, oa, none⟩ r.length ca (icells r) (by rw [icells_length, hz1, Nat.mul_one]) hnews' hone hroom
          (fun j hj => by rw [icells_length] at hj; rw [hz1, Nat.mul_one, cell_of_block h3, Array.getElem?_eq_getElem (by omega)]; rfl) (fun j hj => unfrozen_of_block h3 _)
        have hsr : w.setCells g (o + l.length * i0.size) (icells r) = w.setRow g (splice cur.toList (o + l.length) (icells r)).toArray := by
          rw [hz1, Nat.mul_one]
          exact setCells_row hg2 (by rw [icells_length]; simp; omega) hone
        refine ⟨_, _, hrun, ?_, ?_, fun k hk => .inl hk⟩
        · rw [hsr]
          have hll : (icells (l ++ r)).length = l.length + r.length := by rw [icells_length, List.length_append]
          refine .inr ⟨g, o, cap, (splice cur.toList (o + l.length) (icells r)).toArray, by rw [hll], h2, setRow_heap _ _ _ _ _ _ h3, by rw [hll]; exact hroom, h5, ?_, fun i u hu => ?_⟩
          · have := length_splice cur.toList (o + l.length) (icells r) (by rw [icells_length]; simp; omega)
            simp only [List.size_toArray, this]
            simpa using h6
          · rw [icells_app] at hu
            rw [List.getElem?_toArray]
            unfold splice
            by_cases ci : i < l.length
            · rw [List.getElem?_append_left (by rw [icells_length]; exact ci)] at hu
              rw [List.getElem?_append_left (by rw [List.length_take]; simp; omega), List.getElem?_take, if_pos (by omega)]
              have := h7 i u hu
              simpa using this
            · rw [List.getElem?_append_right (by rw [icells_length]; omega), icells_length] at hu
              have hil := (List.getElem?_eq_some_iff.1 hu).1
              rw [icells_length] at hil
              have htl : (cur.toList.take (o + l.length)).length = o + l.length := by rw [List.length_take]; simp; omega
              rw [List.getElem?_append_right (by rw [htl]; omega), htl, List.getElem?_append_left (by rw [icells_length]; omega)]
              rw [show o + i - (o + l.length) = i - l.length by omega]
              exact hu
        · rw [hsr]; exact grown_setRow w g _
      · obtain ⟨v', w', hrun, g1, g2⟩ := run_append_arg_grows (P := Tryz.prog) w 35 ty 3 i0 _ 1 8 Tryz.underlying35 hi hz0 hz1 hz2 rfl (by decide) ⟨g, o, none⟩ l.length cap (icells l) (by rw [icells_length, Nat.mul_one])
          (fun j u hj => by
            have ea : (⟨g, o, none⟩ : Addr).add j = ⟨g, o + j, none⟩ := by unfold Addr.add; split <;> simp_all
            rw [ea, cell_of_block h3]
            exact h7 j u hj) ⟨ga, oa, none⟩ r.length ca (icells r) (by rw [icells_length, Nat.mul_one]) hnews' (by omega) hml (by omega)
        exact ⟨v', w', hrun, happ g1 hB, ⟨g2.os, g2.tape, g2.output, g2.size, fun k hk _ => g2.block k hk (by simp)⟩, fun k hk => .inr (g1.lt k hk).1⟩
theorem imap_pos {w : World} {b n : Nat} {f : Int → Option Value} (h : IMap (.int .i64) ik w b f n) : 0 < n ↔ ∃ k v, f k = some v := by
  obtain ⟨es, clock, h1, h2, h3, h4, rfl⟩ := h
  constructor
  · intro hp
    have : 0 < es.toList.length := by simpa using hp
    obtain ⟨e, he⟩ := List.exists_mem_of_length_pos this
    obtain ⟨k, hk⟩ := h3 e he
    exact ⟨k, e.val, (h4 k _).2 ⟨e, he, hk, rfl⟩⟩
  · rintro ⟨k, v, hv⟩
    obtain ⟨e, he, -⟩ := (h4 k v).1 hv
    have := List.length_pos_of_mem he
    simpa using this
theorem ThM.len {w : World} {B g mb : Nat} {md : Int → Int} {cn : Nat → Nat} {qv : Value} {q : List Lv} (h : ThM w B g mb md cn qv q) : ∃ n : Nat, (∀ ty, (Builtin.len_ #[56] ty #[.map (some mb)]).run Tryz.prog w = .ok (goInt n) w) ∧ (n = 0 ↔ ∀ u, md u = 0) := by
  obtain ⟨n, hm⟩ := h.mp
  refine ⟨n, fun ty => hm.len Tryz.underlying56, ?_⟩
  have := imap_pos hm
  constructor
  · intro hn u
    refine Decidable.byContradiction fun c => ?_
    have : 0 < n := this.2 ⟨u, .int .i64 (md u), by unfold mdV; rw [if_neg c]⟩
    omega
  · intro hu
    refine Nat.eq_zero_of_not_pos fun hc => ?_
    obtain ⟨k, v, hv⟩ := this.1 hc
    unfold mdV at hv
    rw [if_pos (hu k)] at hv
    cases hv
section
variable {w w1 w2 : World} {B : Nat} {own : Nat → Own} {L : Lay} {S : TS RS}
/-- one's row given up, though it was written -/
theorem Mem.delH2 (h : Mem w B own L S) (t : Int) {F : Bl} (hf0 : Frm F w w2) (hF : ∀ k, F k → own k = .hr t) (ty : TypeId) : ∃ w3, (Builtin.delete_ #[49, 3] ty #[.map (some L.bh), .int .i64 t]).run Tryz.prog w2 = .ok (.tuple #[]) w3 ∧ Mem w3 B (ownH own t) { L with hr := fun u => if u = t then none else L.hr u } { S with hs := fun u => if u = t then [] else S.hs u } ∧ Frm (fun k => k = L.bh) w2 w3 := by
  have hn0 : ∀ k o, own k = o → o ≠ .hr t → ¬ F k := fun k o e ho hk => ho (by rw [← e]; exact hF k hk)
  obtain ⟨n1, m1⟩ := h.mt
  obtain ⟨n2, m2⟩ := h.mh
  obtain ⟨n3, m3⟩ := h.mw
  have m2' := m2.step hf0 (hn0 _ _ h.obh (by intro e; cases e))
  obtain ⟨w', hr, m, gr, -⟩ := m2'.del (P := Tryz.prog) (t := 49) (ty := ty) Tryz.underlying49 Tryz.underlying3 ik_key ik_inj t
  have hf3 : Frm (fun k => k = L.bh) w2 w' := Frm.grown (Frm.refl _ w2) gr (fun k hk => by injection hk with hk; exact .inl hk.symm)
  have hf : Frm (fun k => F k ∨ k = L.bh) w w' := (hf0.mono (F1 := fun k => F k ∨ k = L.bh) fun k hk => .inl hk).trans (hf3.mono (F1 := fun k => F k ∨ k = L.bh) fun k hk => .inr hk) (New.refl _ _)
  have hn : ∀ k o, own k = o → o ≠ .bh → o ≠ .hr t → ¬ (F k ∨ k = L.bh) := fun k o e ho ho2 hk => by
    rcases hk with hk | hk
    · exact hn0 k o e ho2 hk
    · exact ho (by rw [← e, hk]; exact h.obh)
  refine ⟨w', hr, ⟨(hf.heap h.tbl (hn _ _ h.otb (by intro e; cases e) (by intro e; cases e))).trans h.box, ⟨n1, m1.step hf (hn _ _ h.obt (by intro e; cases e) (by intro e; cases e))⟩, ⟨_, m⟩, ⟨n3, m3.step hf (hn _ _ h.obw (by intro e; cases e) (by intro e; cases e))⟩, fun s hs => ?_, h.no, fun u => ?_, ownH_ne h.otb (by intro e; cases e), ownH_ne h.obt (by intro e; cases e), ownH_ne h.obh (by intro e; cases e), ownH_ne h.obw (by intro e; cases e), fun s hs => ownH_ne (h.otg s hs) (by intro e; cases e), fun s hs => ownH_ne (h.otm s hs) (by intro e; cases e), fun s hs k hk => ownH_ne (h.otq s hs k hk) (by intro e; cases e), fun u k hk => ?_, fun k hk => h.lo k (ownH_sub hk)⟩, hf3⟩
  · exact (h.th s hs).step hf (hn _ _ (h.otg s hs) (by intro e; cases e) (by intro e; cases e)) (hn _ _ (h.otm s hs) (by intro e; cases e) (by intro e; cases e)) (fun k hk => hn _ _ (h.otq s hs k hk) (by intro e; cases e) (by intro e; cases e))
  · show QS w' B ((if u = t then none else L.hr u).getD nilV) (if u = t then [] else S.hs u)
    by_cases c : u = t
    · rw [if_pos c, if_pos c]; exact QR.nil _ _ _
    · rw [if_neg c, if_neg c]
      exact (h.rw u).step hf (fun k hk => hn _ _ (h.ohr u k hk) (by intro e; cases e) (by intro e; injection e with e; exact c e))
  · have hk' : ((if u = t then none else L.hr u).getD nilV).ownBlock = some k := hk
    by_cases c : u = t
    · rw [if_pos c] at hk'; cases hk'
    · rw [if_neg c] at hk'
      exact ownH_ne (h.ohr u k hk') (by intro e; injection e with e; exact c e)
end
theorem posr {R : Type} [DecidableEq R] {T : TbL R} {S : TS R} {t : Int} {rest rx : List R} {m0 : R → Int} (h : RelP T S t rest rx m0) {s : R} (hs : s ∈ rest) (hm : m0 s = 0 ∨ (0 < m0 s ∧ m0 s < 7)) : (S.md s t = 0 ∨ (0 < S.md s t ∧ S.md s t < 7)) ∧ (S.md s t ≠ 0 → 0 < S.cn s (S.md s t).toNat) := by
  have hmd : S.md s t = m0 s := by rw [h.md, if_pos ⟨hs, rfl⟩]
  rw [hmd]
  refine ⟨hm, fun hn => ?_⟩
  rw [h.cn, if_pos ⟨hs, by omega, hn⟩]
  omega

end Go.Proofs.YtelfinhpjokmdaaGreatDoor

namespace Go.Proofs.YtelfinhpjokmdaaGreatDoor
set_option maxRecDepth 100000
open Go.RowKit Go.Joins Go.ChangeShapes Go.WideShapes
open Go.MapKept
set_option linter.unusedVariables false
set_option linter.unnecessarySimpa false
set_option linter.unusedSimpArgs false

/-- one thing settled, in the lists -/
def stpL (p : TbL RS × List Int) (s : RS) : TbL RS × List Int := stl ordT mds (que p.1.wt s) p.1 p.2
theorem stpL_eq (T : TbL RS) (t : Int) : dropL ordT mds T t = (thg ordT T t).foldl stpL (outL T t, []) := rfl
theorem QR.kind {w : World} {B : Nat} {e : TypeId} {v : Value} {xs : List Value} (h : QR w B e v xs) {k : Nat} (hk : v.ownBlock = some k) : ∃ cur, w.heap[k]? = some (.cells cur e (0, 0)) := by
  rcases h with ⟨rfl, -⟩ | ⟨g, o, cap, cur, rfl, h2, h3, -⟩
  · simp [Value.ownBlock] at hk
  · simp only [Value.ownBlock, Option.some.injEq] at hk
    subst hk
    exact ⟨cur, h3⟩
structure StD (w0 : World) (own0 : Nat → Own) (B tb0 : Nat) (T0 : TbL RS) (t : Int) (rs : List RS) (vrow : Value) (wr : World) (vg : Value) (j : Nat) (own : Nat → Own) (L : Lay) (S : TS RS) (T : TbL RS) (out : List Int) : Prop where
  mem : Mem wr B own L S
  ltb : L.tb = tb0
  stp : Stp w0 own0 wr own
  rel : RelP T S t (rs.drop j) (rs.drop j) (fun s => mdO T0.hv t s)
  bas : BasL ordT mds T
  bar : ∀ s, s ∉ rs.drop j → BarL mds T s
  eq : (rs.drop j).foldl stpL (T, out) = rs.foldl stpL (outL T0 t, [])
  siz : sizT T ≤ sizT T0
  row : QS wr B vrow rs
  rfr : ∀ k, vrow.ownBlock = some k → own k = .none
  got : QI wr w0.heap.size vg out
  gfr : ∀ k, vg.ownBlock = some k → own k = .none
  hi : HiO wr own
  tb : TbB wr B
  ot : (∀ h ∈ T.hv, h.txn ≠ t) ∧ ∀ w ∈ T.wt, w.l.txn ≠ t
  bw : B ≤ w0.heap.size
section
variable {w0 wr w1 w2 w3 w4 w5 : World} {own0 own own3 : Nat → Own} {B tb0 : Nat} {T0 T T3 : TbL RS} {t : Int} {rs : List RS} {vrow vg vg3 vg4 : Value} {j : Nat} {L L3 : Lay} {S S3 S5 : TS RS} {out out3 : List Int} {s : RS}
theorem StD.head (h : StD w0 own0 B tb0 T0 t rs vrow wr vg j own L S T out) (hl : rs[j]? = some s) (hsr : rs.Pairwise (fun a b => ordT.lt a b = true)) (hi0 : InvL ordT mds T0) :
    rs.drop j = s :: rs.drop (j + 1) ∧ s ∉ rs.drop (j + 1) ∧ S.ex s = true ∧ (S.md s t = 0 ∨ (0 < S.md s t ∧ S.md s t < 7)) ∧ (S.md s t ≠ 0 → 0 < S.cn s (S.md s t).toNat) ∧ (∀ m, S.cn s m ≤ sizT T0 + 1) ∧ (S.qu s).length ≤ 2 * sizT T0 + (S.qu s).length ∧ RelP T (leftS S s t) t (rs.drop (j + 1)) (s :: rs.drop (j + 1)) (fun s => mdO T0.hv t s) := by
  have hlt := (List.getElem?_eq_some_iff.1 hl).1
  have hd : rs.drop j = s :: rs.drop (j + 1) := by
    rw [List.drop_eq_getElem_cons hlt]
    congr 1
    rw [List.getElem?_eq_getElem hlt] at hl
    injection hl
  have hns : s ∉ rs.drop (j + 1) := by
    have hp : (rs.drop j).Pairwise (fun a b => ordT.lt a b = true) := hsr.sublist (List.drop_sublist _ _)
    rw [hd] at hp
    intro hc
    have := (List.pairwise_cons.1 hp).1 s hc
    rw [ordT.irr] at this
    cases this
  have hr := h.rel
  rw [hd] at hr
  have hb := hi0.bas (O := ordT) (M := mds)
  have hm : mdO T0.hv t s = 0 ∨ (0 < mdO T0.hv t s ∧ mdO T0.hv t s < 7) := by
    by_cases z : mdO T0.hv t s = 0
    · exact .inl z
    · exact .inr (mds_pos _ (hb.rt _ (mdO_mem z)))
  obtain ⟨p1, p2⟩ := posr hr (List.mem_cons_self ..) hm
  obtain ⟨b1, -⟩ := hr.bounds ordT mds h.bas
  have hz := h.siz
  unfold sizT at hz
  refine ⟨hd, hns, (hr.ex s).2 (.inl (List.mem_cons_self ..)), p1, p2, fun m => ?_, by omega, ?_⟩
  · have := b1 s m; unfold sizT; omega
  · refine hr.leave hns (fun s' => mdO_none fun x hx e => h.ot.1 x hx e.1) (fun s' => ?_)
    by_cases z : mdO T0.hv t s' = 0
    · rw [z]; exact Int.le_refl _
    · have := (mds_pos _ (hb.rt _ (mdO_mem z))).1
      exact Int.le_of_lt this
theorem StD.ql (h : StD w0 own0 B tb0 T0 t rs vrow wr vg j own L S T out) (hq : ∀ s, (S.qu s).length ≤ 4294967296) (s : RS) : (S.qu s).length ≤ 4294967296 := hq s
/-- a thing more is settled -/
theorem StD.next (h : StD w0 own0 B tb0 T0 t rs vrow wr vg j own L S T out) (hd : rs.drop j = s :: rs.drop (j + 1)) (hst : stl ordT mds (que T.wt s) T [] = (T3, out3)) (hS3 : Stp wr own w3 own3) (hB3 : BasL ordT mds T3) (hz3 : sizT T3 ≤ sizT T)
    (g4 : w3.grownBy w4 vg.ownBlock) (n4 : NewO w3 vg vg4) (q4 : QI w4 w0.heap.size vg4 (out ++ out3)) (f5 : Frm (fun k => k = L3.bt) w4 w5) (hM5 : Mem w5 B own3 L3 S5) (hl5 : L3.tb = tb0) (hR5 : RelP T3 S5 t (rs.drop (j + 1)) (rs.drop (j + 1)) (fun s => mdO T0.hv t s)) :
    StD w0 own0 B tb0 T0 t rs vrow w5 vg4 (j + 1) own3 L3 S5 T3 (out ++ out3) := by
  have hf4 : Frm (fun k => vg.ownBlock = some k) w3 w4 := Frm.grown (F := fun k => vg.ownBlock = some k) (Frm.refl _ w3) g4 (fun k hk => .inl hk)
  have hgl : ∀ k, vg.ownBlock = some k → k < wr.heap.size := fun k hk => (h.got.lt k hk).2
  have hg3 : ∀ k, vg.ownBlock = some k → own3 k = .none := fun k hk => hS3.free (h.gfr k hk) (hgl k hk)
  have hr3 : ∀ k, vrow.ownBlock = some k → own3 k = .none := fun k hk => hS3.free (h.rfr k hk) (h.row.lt k hk).2
  have hbt : ∀ k, own3 k = .none → ¬ k = L3.bt := fun k e c => by rw [c, hM5.obt] at e; cases e
  have row3 : QS w3 B vrow rs := h.row.step hS3.frm (fun k hk c => c (h.rfr k hk))
  have got3 : QI w3 w0.heap.size vg out := h.got.step hS3.frm (fun k hk c => c (h.gfr k hk))
  have hne : ∀ k, vrow.ownBlock = some k → ¬ vg.ownBlock = some k := fun k hk hc => by
    obtain ⟨c1, e1⟩ := QR.kind row3 hk
    obtain ⟨c2, e2⟩ := QR.kind got3 hc
    rw [e1] at e2
    injection e2 with e2
    injection e2 with _ e3
    exact absurd e3 (by decide)
  have hi3 := hS3.hi h.hi
  have hg4 : ∀ k, vg4.ownBlock = some k → own3 k = .none := fun k hk => by
    rcases n4 k hk with e | e
    · exact hg3 k e
    · refine Classical.byContradiction fun c => ?_
      have := hi3 k c
      omega
  obtain ⟨gr, hgr, hgl2⟩ := stl_gr ordT mds s (que T.wt s) T [] h.bas rfl
  rw [hst] at hgr hgl2
  have hinv := stl_inv ordT mds s (fun s' => s' ∈ rs.drop (j + 1)) (que T.wt s) T [] h.bas rfl (fun s' hn hz => h.bar s' (by rw [hd, List.mem_cons]; rintro (e | e); exact hn e; exact hz e))
  rw [hst] at hinv
  refine ⟨hM5, hl5, ((h.stp.trans hS3).grow hf4 (fun k hk => .inr (.inr (h.got.lt k hk).1))).trans (Stp.of_frm f5 (fun k hk e => by rw [hk, hM5.obt] at e; cases e)), hR5, hB3, fun s' hs' => ?_, ?_, Nat.le_trans hz3 h.siz, (row3.step hf4 hne).step f5 (fun k hk => hbt k (hr3 k hk)), hr3, q4.step f5 (fun k hk => hbt k (hg4 k hk)), hg4, (hi3.below hf4.size).below f5.size, ?_, ⟨fun x hx e => ?_, fun w hw => h.ot.2 w ((hgl2.left w).1 hw).1⟩, h.bw⟩
  · by_cases c : s' = s
    · rw [c]; exact hinv.2.1
    · exact hinv.2.2 s' c hs'
  · rw [← h.eq, hd, List.foldl_cons]
    congr 1
    unfold stpL
    rw [stl_app]
    show _ = ((stl ordT mds (que T.wt s) T []).1, out ++ (stl ordT mds (que T.wt s) T []).2)
    rw [hst]
  · refine ((h.mem.tb h.tb hS3).frm hf4 (fun k hk => Nat.le_trans h.bw (h.got.lt k hk).1)).frm f5 (fun k hk => ?_)
    rw [hk]
    exact hM5.lo _ (by rw [hM5.obt]; intro e; cases e)
  · rcases hgl2.hv x hx with ⟨y, hy, e2⟩ | e2
    · exact h.ot.1 y hy (e2.trans e)
    · obtain ⟨w, hw, e3⟩ := hgl2.was _ e2
      exact h.ot.2 w hw (e3.trans e)
end

end Go.Proofs.YtelfinhpjokmdaaGreatDoor

namespace Go.Proofs.YtelfinhpjokmdaaGreatDoor
set_option maxRecDepth 100000
open Go.RowKit Go.Joins Go.ChangeShapes Go.WideShapes
open Go.MapKept
set_option linter.unusedVariables false
set_option linter.unnecessarySimpa false
set_option linter.unusedSimpArgs false

section
variable {w w1 w3 w4 w5 : World} {B : Nat} {own : Nat → Own} {L : Lay} {S : TS RS} {T : TbL RS} {t : Int}
theorem thg_ord (h : InvL ordT mds T) {lst : List RS} (hl : ∀ s, s ∈ lst ↔ (∃ x ∈ T.hv, x.txn = t ∧ x.res = s) ∨ ∃ x ∈ T.wt, x.l.txn = t ∧ x.l.res = s) : ordS lst = thg ordT T t := by
  obtain ⟨h1, h2⟩ := ordS_spec lst
  refine strict_eq (r := fun a b => ordT.lt a b = true) (fun a e => by rw [ordT.irr] at e; cases e) ordT.tr _ _ h1 (srt_thg ordT mds h t) fun x => ?_
  rw [h2, hl, mem_thg ordT h.one]
theorem StD.start (h : TbX w B own L S T) (hM : Mem w5 B (ownH own t) { L with hr := fun u => if u = t then none else L.hr u } (gaveS S t)) (hst : Stp w own w5 (ownH own t)) {v : Value} {lst : List RS} (hl : ∀ s, s ∈ lst ↔ (∃ x ∈ T.hv, x.txn = t ∧ x.res = s) ∨ ∃ x ∈ T.wt, x.l.txn = t ∧ x.l.res = s) (hq : QS w5 B v (ordS lst)) (hv : ∀ k, v.ownBlock = some k → ownH own t k = .none) :
    StD w own B L.tb T t (thg ordT T t) v w5 (.slice none 0 0) 0 (ownH own t) { L with hr := fun u => if u = t then none else L.hr u } (gaveS S t) (outL T t) [] := by
  rw [thg_ord h.inv hl] at hq
  refine ⟨hM, rfl, hst, h.rel.out ordT mds h.inv t, h.inv.out ordT mds t, fun s hs l q hqq => ?_, rfl, out_siz T t, hq, hv, QI.nil _ _, (fun k hk => by cases hk), hst.hi h.hi, h.mem.tb h.tb hst, ⟨fun x hx e => ?_, fun x hx => (mem_fgt.1 hx).2⟩, h.mem.bB⟩
  · have hs' : s ∉ thg ordT T t := hs
    rw [mem_thg ordT h.inv.one] at hs'
    have hq' : que (fgt T.wt t) s = l :: q := hqq
    rw [que_other h.inv.one (fun x hx e g => hs' (.inr ⟨x, hx, e, g⟩))] at hq'
    have hlr := (mem_que.1 (show l ∈ que T.wt s by rw [hq']; exact List.mem_cons_self ..)).1
    have := h.inv.bar s l q hq'
    rw [Bool.eq_false_iff, ne_eq, can_iff] at this ⊢
    intro hc
    refine this fun x hx hr ht => hc x ?_ hr ht
    exact List.mem_filter.2 ⟨hx, by simp; exact fun e => hs' (.inl ⟨x, hx, e, hr.trans hlr⟩)⟩
  · have := (List.mem_filter.1 hx).2
    simp [e] at this
/-- all things are settled -/
theorem StD.done {tb0 : Nat} {T1 : TbL RS} {vrow vg : Value} {w0 : World} {own0 : Nat → Own} {out : List Int} {n : Nat} (h : StD w0 own0 B tb0 T1 t (thg ordT T1 t) vrow w vg n own L S T out) (hn : (thg ordT T1 t).length = n) : TbX w B own L S (dropL ordT mds T1 t).1 ∧ out = (dropL ordT mds T1 t).2 := by
  have hd : (thg ordT T1 t).drop n = [] := List.drop_eq_nil_of_le (by omega)
  have he := h.eq
  rw [hd] at he
  have e : dropL ordT mds T1 t = (T, out) := by rw [stpL_eq]; exact he.symm
  have hr := h.rel
  rw [hd] at hr
  rw [e]
  exact ⟨⟨h.mem, h.hi, h.tb, hr.done, h.bas.inv ordT mds fun s => h.bar s (by rw [hd]; simp)⟩, rfl⟩
end

end Go.Proofs.YtelfinhpjokmdaaGreatDoor

namespace Go.Proofs.YtelfinhpjokmdaaGreatDoor
set_option maxRecDepth 100000
set_option linter.unusedVariables false
set_option linter.unusedSectionVars false
set_option linter.unnecessarySimpa false
set_option linter.unusedSimpArgs false

section
variable {R : Type} [DecidableEq R] (O : OrdR R) (M : Mds)
theorem stl_cnt (s : R) : ∀ (q : List (Lk R)) (T : TbL R) (out : List Int), BasL O M T → que T.wt s = q → (stl O M q T out).2.length + (stl O M q T out).1.wt.length ≤ out.length + T.wt.length
  | [], T, out, h, hq => Nat.le_refl _
  | l :: q, T, out, h, hq => by
    unfold stl
    by_cases c : can M T.hv l = true
    · rw [if_pos c]
      have h1 := stl_cnt s q _ (out ++ [l.txn]) (h.grant O M hq c) (que_head h.one hq)
      obtain ⟨hr, w, hw, rfl⟩ := mem_que.1 (show l ∈ que T.wt s by rw [hq]; exact List.mem_cons_self ..)
      have h2 := fgt_length hw
      rw [List.length_append] at h1
      have h3 : [w.l.txn].length = 1 := rfl
      have h4 : (⟨gv O w.l T.hv, fgt T.wt w.l.txn⟩ : TbL R).wt.length = (fgt T.wt w.l.txn).length := rfl
      omega
    · rw [if_neg c]; exact Nat.le_refl _
theorem fold_cnt : ∀ (ths : List R) (T : TbL R) (out : List Int), BasL O M T → (ths.foldl (fun p s => stl O M (que p.1.wt s) p.1 p.2) (T, out)).2.length ≤ out.length + T.wt.length
  | [], T, out, h => Nat.le_add_right _ _
  | s :: r, T, out, h => by
    rw [List.foldl_cons]
    have h2 := (stl_inv O M s (fun _ => True) (que T.wt s) T out h rfl (fun _ _ g => absurd trivial g)).1
    have h1 := stl_cnt O M s (que T.wt s) T out h rfl
    have h3 := fold_cnt r (stl O M (que T.wt s) T out).1 (stl O M (que T.wt s) T out).2 h2
    exact Nat.le_trans h3 h1
theorem fold_pre : ∀ (ths : List R) (T : TbL R) (out : List Int), out.length ≤ (ths.foldl (fun p s => stl O M (que p.1.wt s) p.1 p.2) (T, out)).2.length
  | [], T, out => Nat.le_refl _
  | s :: r, T, out => by
    rw [List.foldl_cons]
    have h3 := fold_pre r (stl O M (que T.wt s) T out).1 (stl O M (que T.wt s) T out).2
    have h1 : out.length ≤ (stl O M (que T.wt s) T out).2.length := by
      rw [stl_app]
      show _ ≤ (out ++ _).length
      rw [List.length_append]; omega
    exact Nat.le_trans h1 h3
theorem drop_cnt {T : TbL R} (h : InvL O M T) (t : Int) : (dropL O M T t).2.length ≤ sizT T := by
  have h1 := fold_cnt O M (thg O T t) (outL T t) [] (h.out O M t)
  have h2 := out_siz T t
  unfold sizT at h2
  refine Nat.le_trans h1 ?_
  unfold sizT
  have h3 : ([] : List Int).length = 0 := rfl
  omega
end

end Go.Proofs.YtelfinhpjokmdaaGreatDoor

namespace Go.Proofs.YtelfinhpjokmdaaGreatDoor
set_option maxRecDepth 100000
open Go.RowKit Go.Joins Go.ChangeShapes Go.WideShapes
open Go.MapKept
set_option linter.unusedVariables false
set_option linter.unnecessarySimpa false
set_option linter.unusedSimpArgs false

section
variable {w0 wr w1 : World} {own0 own : Nat → Own} {B tb0 : Nat} {T0 T : TbL RS} {t : Int} {rs : List RS} {vrow vg : Value} {j : Nat} {L : Lay} {S : TS RS} {out : List Int} {s : RS}
theorem StD.below (h : StD w0 own0 B tb0 T0 t rs vrow wr vg j own L S T out) (hb : Below wr.heap.size wr w1) : StD w0 own0 B tb0 T0 t rs vrow w1 vg j own L S T out :=
  { h with mem := h.mem.below hb, stp := h.stp.trans (Stp.of_below hb), row := h.row.step (F := fun _ => False) (Frm.of_below hb) (fun _ _ e => e), got := h.got.step (F := fun _ => False) (Frm.of_below hb) (fun _ _ e => e), hi := h.hi.below hb.size, tb := h.tb.below hb }
theorem updS_idS (s : RS) : ∀ a u, (updS (updS S s (fun u => if u = t then 0 else S.md s u) (othC (S.cn s) (S.md s t)) (S.qu s)) s (fun u => if u = t then 0 else S.md s u) (othC (S.cn s) (S.md s t)) ((S.qu s).filter fun l => !decide (l.txn = t))).md a u = (leftS S s t).md a u := by
  intro a u
  show (if a = s then _ else (if a = s then _ else S.md a)) u = if a = s ∧ u = t then 0 else S.md a u
  by_cases c : a = s
  · subst c
    rw [if_pos rfl]
    by_cases c2 : u = t
    · rw [if_pos c2, if_pos ⟨rfl, c2⟩]
    · rw [if_neg c2, if_neg (fun e => c2 e.2)]
  · rw [if_neg c, if_neg c, if_neg (fun e => c e.1)]
/-- what comes of a thing -/
def AfterS (w0 : World) (own0 : Nat → Own) (B tb0 : Nat) (T0 : TbL RS) (t : Int) (rs : List RS) (vrow : Value) (j : Nat) (b : Nat) (vg : Value) (s : RS) (g : Nat) (e : Ending) (wc : World) : Prop :=
  ∃ vc : Value, e = .returned vc ∧ ∃ v4 w4, (∀ ty, (Builtin.append_ #[35, 35] ty #[vg, vc]).run Tryz.prog wc = .ok v4 w4) ∧ ∃ (mb n : Nat), w4.cell? ⟨g, 0, none⟩ = some (.map (some mb)) ∧ (∀ ty, (Builtin.len_ #[56] ty #[.map (some mb)]).run Tryz.prog w4 = .ok (goInt n) w4) ∧
    (n ≠ 0 → ∃ own' L' S' T' out', Hid (StD w0 own0 B tb0 T0 t rs vrow w4 v4 (j + 1) own' L' S' T' out')) ∧
    (n = 0 → w4.cell? ⟨tb0, 0, none⟩ = some (.map (some b)) ∧ ∀ wd, Below w4.heap.size w4 wd → ∃ w5, (∀ ty, (Builtin.delete_ #[48, 9] ty #[.map (some b), .string ⟨s.toArray⟩]).run Tryz.prog wd = .ok (.tuple #[]) w5) ∧ ∃ own' L' S' T' out', Hid (StD w0 own0 B tb0 T0 t rs vrow w5 v4 (j + 1) own' L' S' T' out'))
def AfterL (w0 : World) (own0 : Nat → Own) (B tb0 : Nat) (T0 : TbL RS) (t : Int) (rs : List RS) (vrow : Value) (j : Nat) (b : Nat) (vg : Value) (s : RS) (g : Nat) (e : Ending) (wb : World) : Prop :=
  e = .returned (.tuple #[]) ∧ ∀ wc, Below wb.heap.size wb wc → Calls Tryz.prog 34 #[.pointer (some ⟨tb0, 0, none⟩), .pointer (some ⟨g, 0, none⟩)] wc (AfterS w0 own0 B tb0 T0 t rs vrow j b vg s g)
def AfterT (w0 : World) (own0 : Nat → Own) (B tb0 : Nat) (T0 : TbL RS) (t : Int) (rs : List RS) (vrow : Value) (j : Nat) (b : Nat) (vg : Value) (s : RS) (g : Nat) (e : Ending) (wa : World) : Prop :=
  e = .returned (.tuple #[]) ∧ ∀ wb, Below wa.heap.size wa wb → Calls Tryz.prog 33 #[.pointer (some ⟨g, 0, none⟩), .int .i64 t] wb (AfterL w0 own0 B tb0 T0 t rs vrow j b vg s g)
theorem StD.round (h : StD w0 own0 B tb0 T0 t rs vrow wr vg j own L S T out) (hl : rs[j]? = some s) (hsr : rs.Pairwise (fun a b => ordT.lt a b = true)) (hi0 : InvL ordT mds T0) (hZ : sizT T0 ≤ 4294967200) (hrs : (rs.foldl stpL (outL T0 t, [])).2.length ≤ sizT T0) :
    Calls Tryz.prog 32 #[.pointer (some ⟨L.tg s, 0, none⟩), .int .i64 t] wr (AfterT w0 own0 B tb0 T0 t rs vrow j L.bt vg s (L.tg s)) := by
  obtain ⟨r1, r2, r3, r4, r5, r6, -, r8⟩ := h.head hl hsr hi0
  have hta := take_any (h.mem.th s r3) t r4 r5 (fun m => by have := r6 m; omega)
  refine hta.mono ?_
  rintro e wa ⟨rfl, hMa, hFa⟩
  refine ⟨rfl, fun wb hb => ?_⟩
  obtain ⟨ma, sa⟩ := h.mem.upd r3 hFa (fun k hk => by rcases hk with e | e; (left; rw [e]; exact h.mem.otg s r3); (right; left; rw [e]; exact h.mem.otm s r3)) hMa (fun k hk => .inl hk)
  have mb := ma.below hb
  have sb := sa.trans (Stp.of_below (own := ownN own wr.heap.size wa.heap.size (.tq s)) hb)
  have tb := mb.th s r3
  have hql : (S.qu s).length ≤ 9223372036854775807 := by
    obtain ⟨_, c, -, e1, e2⟩ := (h.mem.th s r3).qr.sl
    unfold maxLen at e2; omega
  have hle := leave_any (hMa.below hb) hql t
  refine hle.mono ?_
  rintro e wl ⟨qv', rfl, hMl, hql', hFl⟩
  refine ⟨rfl, fun wc hc => ?_⟩
  obtain ⟨ml, sl⟩ := mb.upd (s := s) r3 hFl (fun k hk => by
    rcases hk with e | e
    · left; rw [e]; exact mb.otg s r3
    · right; right; exact mb.otq s r3 k (by show (if s = s then L.tq s else _).ownBlock = some k; rw [if_pos rfl]; exact e)) hMl (fun k hk => .inl (by show (if s = s then L.tq s else _).ownBlock = some k; rw [if_pos rfl]; exact hql' k hk))
  have mS := ml.congr (S' := leftS S s t) (fun a u => by
    show (if a = s ∧ u = t then 0 else S.md a u) = (if a = s then (fun u => if u = t then 0 else S.md s u) else (if a = s then (fun u => if u = t then 0 else S.md s u) else S.md a)) u
    by_cases c : a = s
    · subst c
      rw [if_pos rfl]
      by_cases c2 : u = t
      · rw [if_pos c2, if_pos ⟨rfl, c2⟩]
      · rw [if_neg c2, if_neg (fun e => c2 e.2)]
    · (rw [if_neg c, if_neg c, if_neg (fun e => c e.1)]) <;> rfl) (fun a m => by
    show (if a = s then othC (S.cn s) (S.md s t) else S.cn a) m = (if a = s then othC (S.cn s) (S.md s t) else (if a = s then othC (S.cn s) (S.md s t) else S.cn a)) m
    by_cases c : a = s
    · simp [c]
    · simp [c]) (fun a => by
    show (if a = s then (S.qu s).filter (fun l => !decide (l.txn = t)) else S.qu a) = (if a = s then (S.qu s).filter (fun l => !decide (l.txn = t)) else (if a = s then S.qu s else S.qu a))
    by_cases c : a = s
    · simp [c]
    · simp [c]) (fun _ => rfl) (fun _ => rfl) (fun _ => rfl)
  have stc := (sb.trans sl).trans (Stp.of_below (own := ownN (ownN own wr.heap.size wa.heap.size (.tq s)) wb.heap.size wl.heap.size (.tq s)) hc)
  have mc := mS.below hc
  have hic := stc.hi h.hi
  have tbc := h.mem.tb h.tb stc
  have hset := settle_any mc hic tbc s r3 r8 h.bas r2 (by have := h.siz; omega)
  rw [show (updL (updL L s (L.tq s)) s qv').tb = tb0 from h.ltb] at hset
  refine hset.mono ?_
  rintro e w3 ⟨vc, own3, L3, S3, T3, out3, rfl, hst, m3, ⟨e1, e2, e3, -⟩, s3, hR3, hB3, hz3, hx3, hq3, hv3, hi3⟩
  have st3 := stc.trans s3
  have got3 : QI w3 w0.heap.size vg out := h.got.step st3.frm (fun k hk c => c (h.gfr k hk))
  have hlen : out.length + out3.length ≤ 8796093022208 := by
    have h1 := fold_pre ordT mds (rs.drop (j + 1)) T3 (out ++ out3)
    have h2 := h.eq
    rw [r1, List.foldl_cons] at h2
    have h3 : stpL (T, out) s = (T3, out ++ out3) := by
      unfold stpL
      rw [stl_app]
      show ((stl ordT mds (que T.wt s) T []).1, out ++ (stl ordT mds (que T.wt s) T []).2) = _
      rw [hst]
    rw [h3] at h2
    have h4 : ((rs.drop (j + 1)).foldl stpL (T3, out ++ out3)).2.length = (rs.foldl stpL (outL T0 t, [])).2.length := by rw [h2]
    have h5 : (out ++ out3).length ≤ ((rs.drop (j + 1)).foldl stpL (T3, out ++ out3)).2.length := h1
    rw [List.length_append] at h5
    omega
  obtain ⟨v4, w4, hrun, q4, g4, n4⟩ := run_pushI got3 (Nat.le_trans h.stp.frm.size st3.frm.size) hq3 hlen 0
  have hg3 : ∀ k, vg.ownBlock = some k → own3 k = .none := fun k hk => st3.free (h.gfr k hk) (h.got.lt k hk).2
  have hf4 : Frm (fun k => vg.ownBlock = some k) w3 w4 := Frm.grown (F := fun k => vg.ownBlock = some k) (Frm.refl _ w3) g4 (fun k hk => .inl hk)
  have m4 := m3.step hf4 hg3
  obtain ⟨n, hn, hn0⟩ := (m4.th s hx3).len
  have c4 := (m4.th s hx3).c0
  rw [show L3.tg s = L.tg s by rw [e2]; rfl] at c4
  have ltb3 : L3.tb = tb0 := e1.trans h.ltb
  have hbt3 : L3.bt = L.bt := e3
  refine ⟨vc, rfl, v4, w4, fun ty => hrun, L3.tm s, n, c4, hn, fun hnn => ?_, fun hnz => ?_⟩
  · have hex : ∃ u, S3.md s u ≠ 0 := Classical.byContradiction fun c => hnn (hn0.2 fun u => Classical.byContradiction fun c2 => c ⟨u, c2⟩)
    have hR4 := hR3.rxd ((hR3.any ordT mds hB3 r2).2 hex)
    exact ⟨own3, L3, S3, T3, _, Lib.hid (h.next r1 hst st3 hB3 hz3 g4 n4 q4 (Frm.refl _ w4) m4 ltb3 hR4)⟩
  · have hinv := stl_inv ordT mds s (fun s' => s' ∈ rs.drop (j + 1)) (que T.wt s) T [] h.bas rfl (fun s' hn hz => h.bar s' (by rw [r1, List.mem_cons]; rintro (e | e); exact hn e; exact hz e))
    rw [hst] at hinv
    obtain ⟨z0, z1, z2, z3⟩ := hR3.none ordT mds hB3 r2 hinv.2.1 (hn0.1 hnz)
    refine ⟨by have := m4.cells.1; rw [ltb3, hbt3] at this; exact this, fun wd hd => ?_⟩
    obtain ⟨w5, hr5, m5, f5⟩ := (m4.below hd).delT hx3 z1 z2 z3 0
    rw [hbt3] at hr5
    refine ⟨w5, fun ty => hr5, own3, L3, _, T3, _, Lib.hid (h.next r1 hst st3 hB3 hz3 g4 n4 q4 ((Frm.of_below hd).trans f5 (New.refl _ _)) m5 ltb3 (hR3.rxf z0 r2))⟩
end

end Go.Proofs.YtelfinhpjokmdaaGreatDoor

namespace Go.Proofs.YtelfinhpjokmdaaGreatDoor
set_option maxRecDepth 100000
open Go.RowKit Go.Joins Go.ChangeShapes Go.WideShapes
open Go.MapKept
set_option linter.unusedVariables false
set_option linter.unnecessarySimpa false
set_option linter.unusedSimpArgs false

section
variable {w : World} {B : Nat} {own : Nat → Own} {L : Lay} {S : TS RS} {T : TbL RS}
set_option maxHeartbeats 8000000 in
theorem drop_any (h : TbX w B own L S T) (hZ : sizT T ≤ 4294967200) (t : Int) :
    Calls Tryz.prog 9 #[.pointer (some ⟨L.tb, 0, none⟩), .int .i64 t] w fun e w' => ∃ vg own' L' S', e = .returned vg ∧ L'.tb = L.tb ∧ TbX w' B own' L' S' (dropL ordT mds T t).1 ∧ Stp w own w' own' ∧ QI w' w.heap.size vg (dropL ordT mds T t).2 ∧ ∀ k, vg.ownBlock = some k → own' k = .none := by
  generalize hP : (fun (e : Ending) (w' : World) => ∃ vg own' L' S', e = .returned vg ∧ L'.tb = L.tb ∧ TbX w' B own' L' S' (dropL ordT mds T t).1 ∧ Stp w own w' own' ∧ QI w' w.heap.size vg (dropL ordT mds T t).2 ∧ ∀ k, vg.ownBlock = some k → own' k = .none) = P
  have HP := Lib.hid hP
  clear hP
  obtain ⟨v0, hv0⟩ : ∃ v, (L.hr t).getD nilV = v := ⟨_, rfl⟩
  obtain ⟨l0, hl0⟩ : ∃ l, (S.ws t).getD zL = l := ⟨_, rfl⟩
  have hlH := h.mem.lookH t
  have hlW := h.mem.lookW t
  rw [hv0] at hlH
  rw [hl0] at hlW
  unfold encL at hlW
  obtain ⟨c0, c1, c2⟩ := h.mem.cells
  obtain ⟨W1, hW1⟩ : ∃ W1, w.alloc (.cells #[.int .i64 l0.txn, .string ⟨l0.res.toArray⟩, .int .i64 l0.mode] 42) = W1 := ⟨_, rfl⟩
  have hb1 : Below w.heap.size w W1 := by rw [← hW1]; exact (Below.refl _ _).alloc (Nat.le_refl _) _
  have hx1 : W1.heap[w.heap.size]? = some (.cells #[.int .i64 l0.txn, .string ⟨l0.res.toArray⟩, .int .i64 l0.mode] 42 (0, 0)) := by rw [← hW1]; exact heap_alloc_new w _
  have b1 : W1.cell? ⟨w.heap.size, 1, none⟩ = some (.string ⟨l0.res.toArray⟩) := by rw [cell_of_block hx1]; rfl
  have HX := Lib.hid h
  have HB1 := Lib.hid hb1
  have HV0 := Lib.hid hv0
  have HZ := Lib.hid hZ
  have hhs : (S.hs t).length ≤ sizT T := (h.bnd [] t).2.2.2.1
  -- both maps struck, from whatever world the row was written in
  have HDEL := Lib.hid (fun (w2 : World) (v1 : Value) (lst : List RS) (hq : QS w2 B v1 lst) (hf : Frm (fun k => v0.ownBlock = some k) W1 w2) (hn : ∀ k, v1.ownBlock = some k → v0.ownBlock = some k ∨ w.heap.size ≤ k) =>
    show ∃ w3 w4, (∀ ty, (Builtin.delete_ #[49, 3] ty #[.map (some L.bh), .int .i64 t]).run Tryz.prog w2 = .ok (.tuple #[]) w3) ∧ (∀ ty, (Builtin.delete_ #[50, 3] ty #[.map (some L.bw), .int .i64 t]).run Tryz.prog w3 = .ok (.tuple #[]) w4) ∧ w2.cell? ⟨L.tb, 1, none⟩ = some (.map (some L.bh)) ∧ w3.cell? ⟨L.tb, 2, none⟩ = some (.map (some L.bw)) ∧
      Mem w4 B (ownH own t) { L with hr := fun u => if u = t then none else L.hr u } (gaveS S t) ∧ Stp w own w4 (ownH own t) ∧ QS w4 B v1 lst ∧ ∀ k, v1.ownBlock = some k → ownH own t k = .none by
    have h1 := h.below hb1
    obtain ⟨w3, hr3, hM3, hf3⟩ := h1.mem.delH2 t hf (fun k hk => by rw [← hv0] at hk; exact h1.mem.ohr t k hk) 0
    obtain ⟨w4, hr4, hM4, hf4⟩ := hM3.delW t 0
    have hntb : ¬ v0.ownBlock = some L.tb := fun e => by rw [← hv0] at e; have := h.mem.ohr t _ e; rw [h.mem.otb] at this; cases this
    have hv1 : ∀ k, v1.ownBlock = some k → ownH own t k = .none := fun k hk => by
      rcases hn k hk with e | e
      · rw [← hv0] at e; exact ownH_eq (h.mem.ohr t k e)
      · refine Classical.byContradiction fun c => ?_
        have := h.hi k (ownH_sub c)
        omega
    have hst0 : Stp w own w4 own := (((Stp.of_below (own := own) hb1).grow hf (fun k hk => .inl (by rw [← hv0] at hk; rw [h.mem.ohr t k hk]; intro e; cases e))).grow hf3 (fun k hk => .inl (by rw [hk, h.mem.obh]; intro e; cases e))).grow hf4 (fun k hk => .inl (by
      have : k = L.bw := hk
      rw [this, h.mem.obw]; intro e; cases e))
    refine ⟨w3, w4, fun ty => hr3, fun ty => hr4, (hf.cell h1.mem.tbl hntb 1).trans h1.mem.cells.2.1, hM3.cells.2.2, hM4.congr (fun _ _ => rfl) (fun _ _ => rfl) (fun _ => rfl) (fun _ => rfl) (fun _ => rfl) (fun _ => rfl), ⟨hst0.frm, fun k hk => hst0.new k (ownH_sub hk)⟩, (hq.step hf3 (fun k hk e => ?_)).step hf4 (fun k hk e => ?_), hv1⟩
    · have := hv1 k hk
      rw [e, ownH_ne h.mem.obh (by intro e; cases e)] at this; cases this
    · have := hv1 k hk
      have e' : k = L.bw := e
      rw [e', ownH_ne h.mem.obw (by intro e; cases e)] at this; cases this)
  have HMEM := Lib.hid (show (∀ s, s ∈ S.hs t ↔ ∃ x ∈ T.hv, x.txn = t ∧ x.res = s) from h.rel.hs t)
  have HWSH := Lib.hid (show S.ws t = wsh T.wt t from h.rel.ws t)
  obtain ⟨rs, hrs⟩ : ∃ rs, thg ordT T t = rs := ⟨_, rfl⟩
  have HRS := Lib.hid hrs
  have HTAIL := Lib.hid (fun (w2 : World) (v1 : Value) (lst : List RS) (hq : QS w2 B v1 lst) (hf : Frm (fun k => v0.ownBlock = some k) W1 w2) (hn : ∀ k, v1.ownBlock = some k → v0.ownBlock = some k ∨ w.heap.size ≤ k) (hlen : lst.length < 4294967296) (hl : ∀ s, s ∈ lst ↔ (∃ x ∈ T.hv, x.txn = t ∧ x.res = s) ∨ ∃ x ∈ T.wt, x.l.txn = t ∧ x.l.res = s) =>
    show ∃ w3 w4, (∀ ty, (Builtin.delete_ #[49, 3] ty #[.map (some L.bh), .int .i64 t]).run Tryz.prog w2 = .ok (.tuple #[]) w3) ∧ (∀ ty, (Builtin.delete_ #[50, 3] ty #[.map (some L.bw), .int .i64 t]).run Tryz.prog w3 = .ok (.tuple #[]) w4) ∧ w2.cell? ⟨L.tb, 1, none⟩ = some (.map (some L.bh)) ∧ w3.cell? ⟨L.tb, 2, none⟩ = some (.map (some L.bw)) ∧
      Hid (∀ w5, Below w4.heap.size w4 w5 → Calls Tryz.prog 30 #[v1] w5 fun e w6 => e = .returned (.tuple #[]) ∧ ∀ w7, Below w6.heap.size w6 w7 → Calls Tryz.prog 31 #[v1] w7 fun e w8 => ∃ v2, e = .returned v2 ∧ (∃ a c, v2 = .slice a rs.length c ∧ rs.length ≤ 4294967296) ∧ Hid (StD w own B L.tb T t rs v2 w8 (.slice none 0 0) 0 (ownH own t) { L with hr := fun u => if u = t then none else L.hr u } (gaveS S t) (outL T t) [])) by
    obtain ⟨w3, w4, r3, r4, e1, e2, hM, hst, hq4, hfr⟩ := HDEL.out w2 v1 lst hq hf hn
    refine ⟨w3, w4, r3, r4, e1, e2, Lib.hid fun w5 hb5 => ?_⟩
    have hq5 : QS w5 B v1 lst := hq4.step (F := fun _ => False) (Frm.of_below hb5) (fun _ _ e => e)
    refine (sorts_any w5 B v1 lst hq5 hlen).mono ?_
    rintro e w6 ⟨rfl, hq6, hf6⟩
    refine ⟨rfl, fun w7 hb7 => ?_⟩
    have hq7 : QS w7 B v1 _ := hq6.step (F := fun _ => False) (Frm.of_below hb7) (fun _ _ e => e)
    refine (compacts_any w7 B v1 _ hq7 (by rw [List.length_mergeSort]; exact hlen)).mono ?_
    rintro e w8 ⟨v2, rfl, hq8, ho8, hf8⟩
    have hM8 := ((((hM.below hb5).step hf6 hfr).below hb7).step hf8 hfr)
    have hst8 := (((hst.trans (Stp.of_below (own := ownH own t) hb5)).grow hf6 (fun k hk => (hn k hk).elim (fun e => .inl (by rw [← HV0.out] at e; rw [HX.out.mem.ohr t k e]; intro c; cases c)) (fun e => .inr (.inr e)))).trans (Stp.of_below (own := ownH own t) hb7)).grow hf8 (fun k hk => (hn k hk).elim (fun e => .inl (by rw [← HV0.out] at e; rw [HX.out.mem.ohr t k e]; intro c; cases c)) (fun e => .inr (.inr e)))
    have hS := StD.start HX.out hM8 hst8 hl hq8 (fun k hk => hfr k (by rw [← ho8]; exact hk))
    rw [HRS.out] at hS
    refine ⟨v2, rfl, ?_, Lib.hid hS⟩
    obtain ⟨a, c, e, -⟩ := QR.form hS.row
    rw [List.length_map] at e
    refine ⟨a, c, e, ?_⟩
    rw [← HRS.out, ← thg_ord HX.out.inv hl]
    have h1 := (Lib.compact_length_le (lst.mergeSort fun x y => decide (x ≤ y)))
    rw [List.length_mergeSort] at h1
    have h2 : (ordS lst).length ≤ lst.length := h1
    omega)
  have HSR := Lib.hid (show rs.Pairwise (fun a b => ordT.lt a b = true) by rw [← hrs]; exact srt_thg ordT mds h.inv t)
  have HI0 := Lib.hid h.inv
  have HCN := Lib.hid (show (rs.foldl stpL (outL T t, [])).2.length ≤ sizT T by
    rw [← hrs]; exact drop_cnt ordT mds h.inv t)
  -- the end
  have HEND := Lib.hid (fun (wr : World) (v2 vg : Value) (own1 : Nat → Own) (L1 : Lay) (S1 : TS RS) (T1 : TbL RS) (out : List Int) (hk : StD w own B L.tb T t rs v2 wr vg rs.length own1 L1 S1 T1 out) =>
    show P (.returned vg) wr by
      rw [← HP.out]
      have hk' := hk
      rw [← HRS.out] at hk'
      obtain ⟨g1, g2⟩ := hk'.done rfl
      exact ⟨vg, own1, L1, S1, rfl, hk.ltb, g1, hk.stp, by rw [← g2]; exact hk.got, hk.gfr⟩)
  cases hw : S.ws t with
  | none =>
    have hl' : ∀ s, s ∈ S.hs t ↔ (∃ x ∈ T.hv, x.txn = t ∧ x.res = s) ∨ ∃ x ∈ T.wt, x.l.txn = t ∧ x.l.res = s := fun s => by
      rw [HMEM.out s]
      refine ⟨.inl, ?_⟩
      rintro (e | ⟨x, hx, e, -⟩)
      · exact e
      · exact absurd e (wsh_none (by rw [← HWSH.out, hw]; simp) x hx)
    have hq1 : QS W1 B v0 (S.hs t) := by have := (HX.out.below HB1.out).mem.rw t; rw [HV0.out] at this; exact this
    obtain ⟨w3, w4, d3, d4, e1, e2, HSO⟩ := HTAIL.out W1 v0 _ hq1 (Frm.refl _ _) (fun k hk => .inl hk) (by have := HZ.out; omega) hl'
    rw [hw] at hlW
    have d3' := d3 0
    have d4' := d4 0
    clear hl' hq1 h hb1 hx1 hhs hl0 hv0 hrs HMEM HDEL HTAIL hZ hw
    go_enter Tryz.func9, Tryz.ntmps9
    go_upto_region 5 with fail
    try rw [hW1]
    clear hW1
    go_wp2_with fail
    refine (HSO.out w4 (Below.refl _ _)).mono ?_
    rintro e w6 ⟨rfl, hp6⟩
    have HCO := Lib.hid (hp6 w6 (Below.refl _ _))
    clear hp6
    go_wp2_with fail
    refine HCO.out.mono ?_
    rintro e w8 ⟨v2, rfl, ⟨va, vc, rfl, hn9⟩, HS⟩
    obtain ⟨n, hn⟩ : ∃ n, rs.length = n := ⟨_, rfl⟩
    rw [hn] at HS hn9 HEND
    rw [hn]
    have HN := Lib.hid hn
    clear HSO HCO hn c0 c1 c2 hlH hlW e1 e2 d3 d4 d3' d4'
    try clear b1
    go_wp2_with fail
    go_loopw [8, 48] (fun vg i wr => ∃ (j : Nat) (own1 : Nat → Own) (L1 : Lay) (S1 : TS RS) (T1 : TbL RS) (out : List Int), j ≤ n ∧ i = .int .i64 j ∧ Hid (StD w own B L.tb T t rs (.slice va n vc) wr vg j own1 L1 S1 T1 out)) (fun _ i _ => n - (intOf i).toNat)
    case atStart => exact ⟨0, _, _, _, _, _, Nat.zero_le _, rfl, HS⟩
    case round =>
      obtain ⟨j, own1, L1, S1, T1, out, hj, rfl, HK⟩ := hrel
      by_cases c : j < n
      · have c1 : (j : Int) < (n : Int) := by omega
        obtain ⟨s, hs⟩ : ∃ s, rs[j]? = some s := ⟨_, List.getElem?_eq_getElem (by rw [HN.out]; exact c)⟩
        have hrow := HK.out.row
        obtain ⟨g', o', cap', e1, -, -, -, -, -, hcell⟩ := QR.at hrow (by rw [List.length_map, HN.out]; omega)
        injection e1 with e1 e2 e3
        subst e1
        have a0 := hcell j (Go.Proofs.encStr s) (by rw [List.getElem?_map, hs]; rfl)
        have ht := HK.out.mem.lookT s
        have hxs := (HK.out.head hs HSR.out HI0.out).2.2.1
        rw [hxs] at ht
        have ht : (Instr.lookup 48 (.map (some L1.bt)) (.string ⟨s.toArray⟩) false).run Tryz.prog wr = .ok (.pointer (some ⟨L1.tg s, 0, none⟩)) wr := ht
        have a1 := HK.out.mem.cells.1
        rw [HK.out.ltb] at a1
        have HR := Lib.hid (HK.out.round hs HSR.out HI0.out HZ.out HCN.out)
        have hjw : IntKind.i64.wrap ((j : Int) + 1) = ((j + 1 : Nat) : Int) := by rw [IntWalk.i64_in _ (by omega)]; omega
        have a0 : wr.cell? ⟨g', o' + j, none⟩ = some (.string ⟨s.toArray⟩) := a0
        clear hrow hcell e2 e3 hs hxs
        go_wp2_with fail
        refine HR.out.mono ?_
        rintro e wa ⟨rfl, hpa⟩
        have HA := Lib.hid (hpa wa (Below.refl _ _))
        clear hpa a0 a1 ht
        go_wp2_with fail
        refine HA.out.mono ?_
        rintro e wb ⟨rfl, hpb⟩
        have HBb := Lib.hid (hpb wb (Below.refl _ _))
        clear hpb
        go_wp2_with fail
        refine HBb.out.mono ?_
        rintro e wc ⟨v3, rfl, v4, w4', hrun, mb, m4, hc0, hlen, hpos, hzero⟩
        have HPO := Lib.hid hpos
        have HZR := Lib.hid hzero
        have hrun' := hrun 0
        have hlen' := hlen 0
        clear hpos hzero HBb HA HR
        by_cases cz : m4 = 0
        · obtain ⟨b0, HD⟩ := HZR.out cz
          obtain ⟨w5, hd5, own3, L3, S3, T3, out3, HK6⟩ := HD w4' (Below.refl _ _)
          have hd5' := hd5 0
          have hz : decide ((m4 : Int) = 0) = true := by simp [cz]
          clear HD HZR HPO
          go_wp2_with (at_builtin; refine Lib.wpList_append_run _ rfl (.tmp 64) (.tmp 67) _ _ rfl _ _ rfl rfl _ _ hrun' ?_)
          go_roundw
          case rel => exact ⟨j + 1, own3, L3, _, _, _, by omega, by first | rfl | go_num, HK6⟩
          case measure => simp [intOf]; omega
        · obtain ⟨own3, L3, S3, T3, out3, HK6⟩ := HPO.out cz
          have hz : decide ((m4 : Int) = 0) = false := by simp [cz]
          clear HZR HPO
          go_wp2_with (at_builtin; refine Lib.wpList_append_run _ rfl (.tmp 64) (.tmp 67) _ _ rfl _ _ rfl rfl _ _ hrun' ?_)
          go_roundw
          case rel => exact ⟨j + 1, own3, L3, _, _, _, by omega, by first | rfl | go_num, HK6⟩
          case measure => simp [intOf]; omega
      · obtain rfl : j = n := by omega
        have cf : decide ((j : Int) < (j : Int)) = false := by simp
        have HF := Lib.hid (HEND.out wr _ _ own1 L1 S1 T1 out HK.out)
        go_wp2_with fail
        exact HF.out
  | some l1 =>
    have hl' : ∀ s, s ∈ S.hs t ++ [l0.res] ↔ (∃ x ∈ T.hv, x.txn = t ∧ x.res = s) ∨ ∃ x ∈ T.wt, x.l.txn = t ∧ x.l.res = s := fun s => by
      obtain ⟨y, hy, e1, e2⟩ := wsh_some (show wsh T.wt t = some l1 by rw [← HWSH.out, hw])
      rw [hw] at hl0
      have e0 : l1 = l0 := hl0
      rw [List.mem_append, List.mem_singleton, HMEM.out s]
      refine or_congr Iff.rfl ⟨fun e => ⟨y, hy, by rw [e1]; exact e2, by rw [e1, e0, e]⟩, ?_⟩
      rintro ⟨x, hx, e3, e4⟩
      have := wsh_of HX.out.inv.one hx
      rw [e3, ← HWSH.out, hw] at this
      injection this with this
      rw [← e4, ← this, e0]
    have hq1 : QS W1 B v0 (S.hs t) := by have := (HX.out.below HB1.out).mem.rw t; rw [HV0.out] at this; exact this
    obtain ⟨W2, hW2⟩ : ∃ W2, W1.alloc (.cells #[.string ⟨l0.res.toArray⟩] 9) = W2 := ⟨_, rfl⟩
    have hb2 : Below W1.heap.size W1 W2 := by rw [← hW2]; exact (Below.refl _ _).alloc (Nat.le_refl _) _
    have hx2 : W2.heap[W1.heap.size]? = some (.cells #[.string ⟨l0.res.toArray⟩] 9 (0, 0)) := by rw [← hW2]; exact heap_alloc_new W1 _
    have f0 : W2.cell? ⟨W1.heap.size, 0, none⟩ = some (.string ⟨l0.res.toArray⟩) := by rw [cell_of_block hx2]; rfl
    have hq2 : QS W2 B v0 (S.hs t) := hq1.step (F := fun _ => False) (Frm.of_below hb2) (fun _ _ e => e)
    obtain ⟨v1, w2, hrun1, q2, g2, n2⟩ := run_pushS hq2 (Nat.le_trans HX.out.mem.bB (Nat.le_trans HB1.out.size hb2.size)) ⟨W1.heap.size, 0, none⟩ 1 l0.res f0 (by have := HZ.out; omega) 0
    have hfr : Frm (fun k => v0.ownBlock = some k) W1 w2 := Frm.grown (Frm.of_below hb2) g2 (fun k hk => .inl hk)
    obtain ⟨w3, w4, d3, d4, e1, e2, HSO⟩ := HTAIL.out w2 v1 _ q2 hfr (fun k hk => (n2 k hk).imp_right fun e => Nat.le_trans HB1.out.size (Nat.le_trans hb2.size e)) (by have := HZ.out; rw [List.length_append]; have : ([l0.res] : List RS).length = 1 := rfl; omega) hl'
    rw [hw] at hlW
    have d3' := d3 0
    have d4' := d4 0
    clear hl' hq1 h hb1 hx1 hhs hl0 hv0 hrs HMEM HDEL HTAIL hZ hw hb2 hx2 f0 hq2 q2 g2 n2 hfr
    go_enter Tryz.func9, Tryz.ntmps9
    go_upto_region 4 with fail
    try rw [hW1]
    clear hW1
    go_wp2_with (at_builtin; refine Lib.wpList_append_run _ rfl (.tmp 28) (.tmp 31) _ _ rfl _ _ rfl rfl _ _ (by first | exact hrun1 | (rw [hW2]; exact hrun1)) ?_)
    clear hrun1 hW2
    refine (HSO.out w4 (Below.refl _ _)).mono ?_
    rintro e w6 ⟨rfl, hp6⟩
    have HCO := Lib.hid (hp6 w6 (Below.refl _ _))
    clear hp6
    go_wp2_with fail
    refine HCO.out.mono ?_
    rintro e w8 ⟨v2, rfl, ⟨va, vc, rfl, hn9⟩, HS⟩
    obtain ⟨n, hn⟩ : ∃ n, rs.length = n := ⟨_, rfl⟩
    rw [hn] at HS hn9 HEND
    rw [hn]
    have HN := Lib.hid hn
    clear HSO HCO hn c0 c1 c2 hlH hlW e1 e2 d3 d4 d3' d4'
    try clear b1
    go_wp2_with fail
    go_loopw [8, 48] (fun vg i wr => ∃ (j : Nat) (own1 : Nat → Own) (L1 : Lay) (S1 : TS RS) (T1 : TbL RS) (out : List Int), j ≤ n ∧ i = .int .i64 j ∧ Hid (StD w own B L.tb T t rs (.slice va n vc) wr vg j own1 L1 S1 T1 out)) (fun _ i _ => n - (intOf i).toNat)
    case atStart => exact ⟨0, _, _, _, _, _, Nat.zero_le _, rfl, HS⟩
    case round =>
      obtain ⟨j, own1, L1, S1, T1, out, hj, rfl, HK⟩ := hrel
      by_cases c : j < n
      · have c1 : (j : Int) < (n : Int) := by omega
        obtain ⟨s, hs⟩ : ∃ s, rs[j]? = some s := ⟨_, List.getElem?_eq_getElem (by rw [HN.out]; exact c)⟩
        have hrow := HK.out.row
        obtain ⟨g', o', cap', e1, -, -, -, -, -, hcell⟩ := QR.at hrow (by rw [List.length_map, HN.out]; omega)
        injection e1 with e1 e2 e3
        subst e1
        have a0 := hcell j (Go.Proofs.encStr s) (by rw [List.getElem?_map, hs]; rfl)
        have ht := HK.out.mem.lookT s
        have hxs := (HK.out.head hs HSR.out HI0.out).2.2.1
        rw [hxs] at ht
        have ht : (Instr.lookup 48 (.map (some L1.bt)) (.string ⟨s.toArray⟩) false).run Tryz.prog wr = .ok (.pointer (some ⟨L1.tg s, 0, none⟩)) wr := ht
        have a1 := HK.out.mem.cells.1
        rw [HK.out.ltb] at a1
        have HR := Lib.hid (HK.out.round hs HSR.out HI0.out HZ.out HCN.out)
        have hjw : IntKind.i64.wrap ((j : Int) + 1) = ((j + 1 : Nat) : Int) := by rw [IntWalk.i64_in _ (by omega)]; omega
        have a0 : wr.cell? ⟨g', o' + j, none⟩ = some (.string ⟨s.toArray⟩) := a0
        clear hrow hcell e2 e3 hs hxs
        go_wp2_with fail
        refine HR.out.mono ?_
        rintro e wa ⟨rfl, hpa⟩
        have HA := Lib.hid (hpa wa (Below.refl _ _))
        clear hpa a0 a1 ht
        go_wp2_with fail
        refine HA.out.mono ?_
        rintro e wb ⟨rfl, hpb⟩
        have HBb := Lib.hid (hpb wb (Below.refl _ _))
        clear hpb
        go_wp2_with fail
        refine HBb.out.mono ?_
        rintro e wc ⟨v3, rfl, v4, w4', hrun, mb, m4, hc0, hlen, hpos, hzero⟩
        have HPO := Lib.hid hpos
        have HZR := Lib.hid hzero
        have hrun' := hrun 0
        have hlen' := hlen 0
        clear hpos hzero HBb HA HR
        by_cases cz : m4 = 0
        · obtain ⟨b0, HD⟩ := HZR.out cz
          obtain ⟨w5, hd5, own3, L3, S3, T3, out3, HK6⟩ := HD w4' (Below.refl _ _)
          have hd5' := hd5 0
          have hz : decide ((m4 : Int) = 0) = true := by simp [cz]
          clear HD HZR HPO
          go_wp2_with (at_builtin; refine Lib.wpList_append_run _ rfl (.tmp 64) (.tmp 67) _ _ rfl _ _ rfl rfl _ _ hrun' ?_)
          go_roundw
          case rel => exact ⟨j + 1, own3, L3, _, _, _, by omega, by first | rfl | go_num, HK6⟩
          case measure => simp [intOf]; omega
        · obtain ⟨own3, L3, S3, T3, out3, HK6⟩ := HPO.out cz
          have hz : decide ((m4 : Int) = 0) = false := by simp [cz]
          clear HZR HPO
          go_wp2_with (at_builtin; refine Lib.wpList_append_run _ rfl (.tmp 64) (.tmp 67) _ _ rfl _ _ rfl rfl _ _ hrun' ?_)
          go_roundw
          case rel => exact ⟨j + 1, own3, L3, _, _, _, by omega, by first | rfl | go_num, HK6⟩
          case measure => simp [intOf]; omega
      · obtain rfl : j = n := by omega
        have cf : decide ((j : Int) < (j : Int)) = false := by simp
        have HF := Lib.hid (HEND.out wr _ _ own1 L1 S1 T1 out HK.out)
        go_wp2_with fail
        exact HF.out
end

end Go.Proofs.YtelfinhpjokmdaaGreatDoor

namespace Go.Proofs.YtelfinhpjokmdaaGreatDoor
set_option maxRecDepth 100000
open Go.RowKit Go.Joins Go.ChangeShapes Go.WideShapes
open Go.MapKept
set_option linter.unusedVariables false
set_option linter.unnecessarySimpa false
set_option linter.unusedSimpArgs false

section
variable {w : World} {B : Nat} {own : Nat → Own} {L : Lay} {S : TS RS} {T : TbL RS}
set_option maxHeartbeats 2000000 in
theorem mode_any (h : TbX w B own L S T) (t : Int) (s : RS) :
    Calls Tryz.prog 15 #[.pointer (some ⟨L.tb, 0, none⟩), .int .i64 t, .string ⟨s.toArray⟩] w fun e w' => e = .returned (.int .i64 (mdO T.hv t s)) ∧ Below w.heap.size w w' := by
  have hm := h.rel.mdE s t
  obtain ⟨m, hmm⟩ : ∃ m, mdO T.hv t s = m := ⟨_, rfl⟩
  rw [hmm] at hm ⊢
  have c0 := h.mem.cells.1
  have hl := h.mem.lookT s
  cases hx : S.ex s with
  | false =>
    replace hl : (Instr.lookup 48 (.map (some L.bt)) (.string ⟨s.toArray⟩) false).run Tryz.prog w = .ok (.pointer none) w := by rw [hl, hx]; rfl
    have z := congrFun (h.mem.no s hx).1 t
    replace z : S.md s t = 0 := z
    rw [hm] at z
    subst z
    clear h hm hmm hx
    go_enter Tryz.func15, Tryz.ntmps15
    go_wp2_with fail
    go_ret
    first
      | exact ⟨rfl, Below.refl _ _⟩
      | exact ⟨rfl, (Below.refl _ _).drew⟩
  | true =>
    replace hl : (Instr.lookup 48 (.map (some L.bt)) (.string ⟨s.toArray⟩) false).run Tryz.prog w = .ok (.pointer (some ⟨L.tg s, 0, none⟩)) w := by rw [hl, hx]; rfl
    have ht := h.mem.th s hx
    have c1 := ht.c0
    have hk := ht.look1 t
    rw [hm] at hk
    clear h hm hmm hx ht
    go_enter Tryz.func15, Tryz.ntmps15
    go_wp2_with fail
    go_ret
    first
      | exact ⟨rfl, Below.refl _ _⟩
      | exact ⟨rfl, (Below.refl _ _).drew⟩
set_option maxHeartbeats 2000000 in
theorem wish_any (h : TbX w B own L S T) (t : Int) :
    Calls Tryz.prog 13 #[.pointer (some ⟨L.tb, 0, none⟩), .int .i64 t] w fun e w' => e = .returned (.tuple #[encL ((wsh T.wt t).getD zL), .bool (wsh T.wt t).isSome]) ∧ Below w.heap.size w w' := by
  obtain ⟨W0, hW0⟩ : ∃ W0, w.alloc (.cells #[.int .i64 0, .string ⟨#[]⟩, .int .i64 0] 42) = W0 := ⟨_, rfl⟩
  have hb0 : Below w.heap.size w W0 := by rw [← hW0]; exact (Below.refl _ _).alloc (Nat.le_refl _) _
  have h0 := h.mem.below hb0
  have hl := h0.lookW t
  have c2 := h0.cells.2.2
  rw [h.rel.ws t] at hl
  obtain ⟨l0, hl0⟩ : ∃ l, (wsh T.wt t).getD zL = l := ⟨_, rfl⟩
  obtain ⟨b, hb⟩ : ∃ b, (wsh T.wt t).isSome = b := ⟨_, rfl⟩
  rw [hl0, hb] at hl ⊢
  unfold encL at hl ⊢
  obtain ⟨W1, hW1⟩ : ∃ W1, W0.alloc (.cells #[.int .i64 l0.txn, .string ⟨l0.res.toArray⟩, .int .i64 l0.mode] 42) = W1 := ⟨_, rfl⟩
  have hb1 : Below W0.heap.size W0 W1 := by rw [← hW1]; exact (Below.refl _ _).alloc (Nat.le_refl _) _
  have hx0 : W0.heap[w.heap.size]? = some (.cells #[.int .i64 0, .string ⟨#[]⟩, .int .i64 0] 42 (0, 0)) := by rw [← hW0]; exact heap_alloc_new w _
  have hlt : w.heap.size < W0.heap.size := (Array.getElem?_eq_some_iff.1 hx0).1
  have hx1 : W1.heap[w.heap.size]? = some (.cells #[.int .i64 0, .string ⟨#[]⟩, .int .i64 0] 42 (0, 0)) := (hb1.block _ hlt).trans hx0
  have hy1 : W1.heap[W0.heap.size]? = some (.cells #[.int .i64 l0.txn, .string ⟨l0.res.toArray⟩, .int .i64 l0.mode] 42 (0, 0)) := by rw [← hW1]; exact heap_alloc_new W0 _
  have y0 : W1.cell? ⟨W0.heap.size, 0, none⟩ = some (.int .i64 l0.txn) := by rw [cell_of_block hy1]; rfl
  have y1 : W1.cell? ⟨W0.heap.size, 1, none⟩ = some (.string ⟨l0.res.toArray⟩) := by rw [cell_of_block hy1]; rfl
  have y2 : W1.cell? ⟨W0.heap.size, 2, none⟩ = some (.int .i64 l0.mode) := by rw [cell_of_block hy1]; rfl
  have x0 : W1.cell? ⟨w.heap.size, 0, none⟩ = some (.int .i64 0) := by rw [cell_of_block hx1]; rfl
  have x1 : W1.cell? ⟨w.heap.size, 1, none⟩ = some (.string ⟨#[]⟩) := by rw [cell_of_block hx1]; rfl
  have x2 : W1.cell? ⟨w.heap.size, 2, none⟩ = some (.int .i64 0) := by rw [cell_of_block hx1]; rfl
  have z0 := unfrozen_of_block hx1 0
  have z1 := unfrozen_of_block hx1 1
  have z2 := unfrozen_of_block hx1 2
  obtain ⟨W4, hW4⟩ : ∃ W4, ((W1.setCell ⟨w.heap.size, 0, none⟩ (.int .i64 l0.txn)).setCell ⟨w.heap.size, 1, none⟩ (.string ⟨l0.res.toArray⟩)).setCell ⟨w.heap.size, 2, none⟩ (.int .i64 l0.mode) = W4 := ⟨_, rfl⟩
  have hx4 : W4.heap[w.heap.size]? = some (.cells #[.int .i64 l0.txn, .string ⟨l0.res.toArray⟩, .int .i64 l0.mode] 42 (0, 0)) := by
    rw [← hW4, setCell_eq_setRow W1 _ 0 _ _ _ _ hx1]
    have g1 := setRow_heap W1 w.heap.size _ ((#[.int .i64 0, .string ⟨#[]⟩, .int .i64 0] : Array Value).setIfInBounds 0 (.int .i64 l0.txn)) _ _ hx1
    rw [setCell_eq_setRow _ _ 1 _ _ _ _ g1]
    have g2 := setRow_heap _ w.heap.size _ (((#[.int .i64 0, .string ⟨#[]⟩, .int .i64 0] : Array Value).setIfInBounds 0 (.int .i64 l0.txn)).setIfInBounds 1 (.string ⟨l0.res.toArray⟩)) _ _ g1
    rw [setCell_eq_setRow _ _ 2 _ _ _ _ g2, setRow_heap _ _ _ _ _ _ g2]
    rfl
  have HB4 := Lib.hid (show Below w.heap.size w W4 by
    have f1 : Frm (fun k => w.heap.size ≤ k) w W1 := Frm.of_below (hb0.trans (hb1.mono hb0.size))
    have s1 : Frm (fun k => w.heap.size ≤ k) W1 W4 := by
      rw [← hW4]
      exact ((Frm.set1 (F := fun k => w.heap.size ≤ k) W1 (Nat.le_refl _) _ _).trans (Frm.set1 (F := fun k => w.heap.size ≤ k) _ (Nat.le_refl _) _ _) (New.refl _ _)).trans (Frm.set1 (F := fun k => w.heap.size ≤ k) _ (Nat.le_refl _) _ _) (New.refl _ _)
    exact (f1.trans s1 (New.refl _ _)).below (fun k hk => hk) (Nat.le_refl _))
  have q0 : W4.cell? ⟨w.heap.size, 0, none⟩ = some (.int .i64 l0.txn) := by rw [cell_of_block hx4]; rfl
  have q1 : W4.cell? ⟨w.heap.size, 1, none⟩ = some (.string ⟨l0.res.toArray⟩) := by rw [cell_of_block hx4]; rfl
  have q2 : W4.cell? ⟨w.heap.size, 2, none⟩ = some (.int .i64 l0.mode) := by rw [cell_of_block hx4]; rfl
  clear h h0 hl0 hb hb0 hx0 hx1 hy1 hb1 hx4
  go_enter Tryz.func13, Tryz.ntmps13
  go_upto_region 1 with fail
  try rw [hW0]
  clear hW0
  go_upto_region 2 with fail
  try rw [hW1]
  clear hW1
  go_wp2_with fail
  try rw [hW4]
  refine bodyPost_ret (v := .tuple #[.agg #[.int .i64 l0.txn, .string ⟨l0.res.toArray⟩, .int .i64 l0.mode], .bool b]) (by simp [results, Tryz.results13, go_sem, q0, q1, q2]) rfl ⟨rfl, HB4.out⟩
set_option maxHeartbeats 1000000 in
theorem clonen_any (w : World) :
    Calls Tryz.prog 42 #[.slice none 0 0] w fun e w' => e = .returned (.slice none 0 0) ∧ Below w.heap.size w w' := by
  have heq : (binOp .eql 27 (.slice none 0 0) (.slice none 0 0)).run Tryz.prog w = .ok (.bool true) w := Lib.run_eql_slice_nil w _ _ _ _ _ _ _ Tryz.underlying27
  go_enter Tryz.func42, Tryz.ntmps42
  go_wp2_with fail
  go_ret
  exact ⟨rfl, Below.refl _ _⟩
set_option maxHeartbeats 2000000 in
theorem queue_any (h : TbX w B own L S T) (hZ : sizT T ≤ 4294967200) (s : RS) :
    Calls Tryz.prog 14 #[.pointer (some ⟨L.tb, 0, none⟩), .string ⟨s.toArray⟩] w fun e w' => ∃ v, e = .returned v ∧ OwL w' w.heap.size v (que T.wt s) ∧ Below w.heap.size w w' := by
  have hq := h.rel.quE s
  have hlen := (h.bnd s 0).2.2.2.2
  have c0 := h.mem.cells.1
  have hl := h.mem.lookT s
  cases hx : S.ex s with
  | false =>
    replace hl : (Instr.lookup 48 (.map (some L.bt)) (.string ⟨s.toArray⟩) false).run Tryz.prog w = .ok (.pointer none) w := by rw [hl, hx]; rfl
    have z := (h.mem.no s hx).2.2
    rw [hq] at z
    rw [z]
    have HO := Lib.hid (OwL.nil w w.heap.size)
    clear h hx hq z hlen hZ
    go_enter Tryz.func14, Tryz.ntmps14
    go_wp2_with fail
    go_ret
    exact ⟨_, rfl, HO.out, Below.refl _ _⟩
  | true =>
    replace hl : (Instr.lookup 48 (.map (some L.bt)) (.string ⟨s.toArray⟩) false).run Tryz.prog w = .ok (.pointer (some ⟨L.tg s, 0, none⟩)) w := by rw [hl, hx]; rfl
    have ht := h.mem.th s hx
    have c8 := ht.c8
    have hqr := ht.qr
    rw [hq] at hqr hlen
    obtain ⟨q, hqq⟩ : ∃ q, que T.wt s = q := ⟨_, rfl⟩
    rw [hqq] at hqr hlen ⊢
    have HZ := Lib.hid hZ
    rcases hqr.cases with ⟨e, rfl⟩ | ⟨g, cap, cur, e, -⟩
    · rw [e] at c8
      have HC := Lib.hid (clonen_any w)
      clear h hx hq hqr hlen hZ ht hqq e
      go_enter Tryz.func14, Tryz.ntmps14
      go_wp2_with fail
      refine HC.out.mono ?_
      rintro e w' ⟨rfl, hb⟩
      have HB := Lib.hid hb
      clear hb
      go_wp2_with fail
      go_ret
      exact ⟨_, rfl, OwL.nil _ _, HB.out⟩
    · rw [e] at c8 hqr
      have HC := Lib.hid (clone_any w g 0 q.length cap q rfl (hqr.from 0) (by have := HZ.out; omega))
      clear h hx hq hqr hlen hZ ht hqq e
      go_enter Tryz.func14, Tryz.ntmps14
      go_wp2_with fail
      refine HC.out.mono ?_
      rintro e w' ⟨v', rfl, ho, hb⟩
      have HF := Lib.hid (And.intro ho hb)
      clear ho hb
      go_wp2_with fail
      go_ret
      exact ⟨_, rfl, HF.out.1, HF.out.2⟩
end

end Go.Proofs.YtelfinhpjokmdaaGreatDoor
