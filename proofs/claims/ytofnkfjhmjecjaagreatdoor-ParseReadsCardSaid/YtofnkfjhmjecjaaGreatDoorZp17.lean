/-
  Texts of mine put together, in build order.
  Conditions: as each declaration says.
-/
import Derived.Deep.QuietTactic
import Derived.Deep.RegionHeld3
import Derived.Test.YtofnkfjhmjecjaaGreatDoorZp13
import Derived.Test.YtofnkfjhmjecjaaGreatDoorZp15
import Derived.Test.YtofnkfjhmjecjaaGreatDoorZp16
namespace Go.Proofs.YtofnkfjhmjecjaaGreatDoor
set_option maxRecDepth 100000
open Go.RowKit Go.Joins Go.ChangeShapes Go.WideShapes
set_option linter.unusedVariables false
set_option linter.unusedSimpArgs false
theorem same_any {K K' : Bl} {w : World} (x y : XE) (h : x.er = y.er) (hm : XE.Mem K w x) (hm' : XE.Mem K' w y) :
  Calls Tryz.prog 25 #[x.val, y.val] w fun e w' => e = .returned (.bool true) ∧ Below w.heap.size w w' :=
 same_q (depR x.er + 1) K K' w x y (Nat.lt_succ_self _) h hm hm'
theorem XL.Mem.at {α β : Type} {P : Program} {E : EK P α β} {K : Bl} {w : World} {y : XL α} (h : XL.Mem E K w y) {k : Nat} {x : α} (hx : y.xs[k]? = some x) :
  ∃ b o, y.a = some ⟨b, o, none⟩ ∧ K b ∧ b < w.heap.size ∧ (∀ j u, (E.enc x)[j]? = some u → w.cell? ⟨b, o + k * E.n + j, none⟩ = some u) ∧ E.Mem K w x := by
 obtain ⟨h1, h2, h3, h4⟩ := h
 rcases h3 with h3 | ⟨b, o, e1, e2, e3, e4⟩
 ·rw [h3] at hx; simp at hx
 ·refine ⟨b, o, e1, e2, e3, fun j u hj => ?_, h4 x (List.mem_of_getElem? hx)⟩
  have hjn : j < E.n := by rw [← E.len x]; exact (List.getElem?_eq_some_iff.1 hj).1
  rw [Nat.add_assoc]
  exact e4 _ u ((RK.cells_at E.toRK y.xs k j x hx hjn).trans hj)
theorem two_at {α β : Type} {P : Program} {E : EK P α β} {x y : XL α} (h : x.xs.map E.er = y.xs.map E.er) {k : Nat} (hk : k < x.xs.length) :
  ∃ p q, x.xs[k]? = some p ∧ y.xs[k]? = some q ∧ E.er p = E.er q := by
 have hl : y.xs.length = x.xs.length := by have := congrArg List.length h; simpa using this.symm
 have hx : x.xs[k]? = some (x.xs[k]'hk) := List.getElem?_eq_getElem _
 have hy : y.xs[k]? = some (y.xs[k]'(by omega)) := List.getElem?_eq_getElem _
 refine ⟨_, _, hx, hy, ?_⟩
 have e1 : (x.xs.map E.er)[k]? = some (E.er (x.xs[k]'hk)) := by rw [List.getElem?_map, hx]; rfl
 have e2 : (y.xs.map E.er)[k]? = some (E.er (y.xs[k]'(by omega))) := by rw [List.getElem?_map, hy]; rfl
 rw [h, e2] at e1
 injection e1 with e1
 exact e1.symm
theorem XSt.enc_16 (x : XSt) : x.enc.toArray[16]? = some x.order.val := by
 obtain ⟨x0, x1, x2, x3, x4, x5, x6, x7, x8, x9, x10, x11⟩ := x
 obtain ⟨e0, e1, e2, e3, e4, e5, e6, e7, e8⟩ := x9
 rfl
theorem XSt.enc_17 (x : XSt) : x.enc.toArray[17]? = some x.sets.val := by
 obtain ⟨x0, x1, x2, x3, x4, x5, x6, x7, x8, x9, x10, x11⟩ := x
 obtain ⟨e0, e1, e2, e3, e4, e5, e6, e7, e8⟩ := x9
 rfl
theorem clq {w w0 w1 : World} {Q : Prop} (h : Below w.heap.size w w0 ∧ Q) (hb : Below w0.heap.size w0 w1) : Below w.heap.size w w1 := h.1.trans (hb.mono h.1.size)
set_option maxHeartbeats 8000000 in
theorem last_q {K K' : Bl} {w : World} (x y : XSt) (h : x.er = y.er) (hm : XSt.Mem K w x) (hm' : XSt.Mem K' w y) :
    Calls Tryz.prog 27 #[x.val, y.val] w fun e w' => e = .returned (.bool true) ∧ Below w.heap.size w w' := by
  have h1 : x.order.xs.map srk.er = y.order.xs.map srk.er := congrArg Stm.order h
  have h2 : x.sets.xs.map sek.er = y.sets.xs.map sek.er := congrArg Stm.sets h
  have hn1 := Bx.new w x.enc.toArray 34
  have b1 : Below w.heap.size w (w.alloc (.cells x.enc.toArray 34)) := (Below.refl _ _).alloc (Nat.le_refl _) _
  obtain ⟨wa, hwa⟩ : ∃ wa, w.alloc (.cells x.enc.toArray 34) = wa := ⟨_, rfl⟩
  rw [hwa] at hn1 b1
  have hn2 := Bx.new wa y.enc.toArray 34
  have b2 : Below wa.heap.size wa (wa.alloc (.cells y.enc.toArray 34)) := (Below.refl _ _).alloc (Nat.le_refl _) _
  have hn3 := hn1.below b2
  have b3 := b1.trans (b2.mono b1.size)
  obtain ⟨wb, hwb⟩ : ∃ wb, wa.alloc (.cells y.enc.toArray 34) = wb := ⟨_, rfl⟩
  rw [hwb] at b2 hn2 hn3 b3
  obtain ⟨n, hn⟩ : ∃ n, x.order.xs.length = n := ⟨_, rfl⟩
  have hn' : y.order.xs.length = n := by have := congrArg List.length h1; simp at this; omega
  obtain ⟨m, hsm⟩ : ∃ m, x.sets.xs.length = m := ⟨_, rfl⟩
  have hsm' : y.sets.xs.length = m := by have := congrArg List.length h2; simp at this; omega
  have x16 : Hid (wb.cell? ⟨w.heap.size, 16, none⟩ = some (.slice x.order.a n x.order.cap)) := Lib.hid (by rw [← hn]; exact hn3.cell (XSt.enc_16 x))
  have y16 : Hid (wb.cell? ⟨wa.heap.size, 16, none⟩ = some (.slice y.order.a n y.order.cap)) := Lib.hid (by rw [← hn']; exact hn2.cell (XSt.enc_16 y))
  have x17 : Hid (wb.cell? ⟨w.heap.size, 17, none⟩ = some (.slice x.sets.a m x.sets.cap)) := Lib.hid (by rw [← hsm]; exact hn3.cell (XSt.enc_17 x))
  have y17 : Hid (wb.cell? ⟨wa.heap.size, 17, none⟩ = some (.slice y.sets.a m y.sets.cap)) := Lib.hid (by rw [← hsm']; exact hn2.cell (XSt.enc_17 y))
  have HS := Lib.hid (And.intro hn3.lt hn2.lt)
  have HO := Lib.hid (And.intro (hm.order.below b3) (hm'.order.below b3))
  have HT := Lib.hid (And.intro (hm.sets.below b3) (hm'.sets.below b3))
  have HE := Lib.hid (And.intro h1 (And.intro h2 (And.intro hn hsm)))
  have hnm : n ≤ maxLen := by rw [← hn]; exact Nat.le_trans hm.order.1 hm.order.2.1
  have hmm : m ≤ maxLen := by rw [← hsm]; exact Nat.le_trans hm.sets.1 hm.sets.2.1
  have HB := Lib.hid b3
  generalize hP : (fun (e : Ending) (w' : World) => e = .returned (.bool true) ∧ Below w.heap.size w w') = P
  have HP := Lib.hid hP
  simp only [XSt.val]
  obtain ⟨oa, hoa⟩ : ∃ oa, x.order.a = oa := ⟨_, rfl⟩
  obtain ⟨oc, hoc⟩ : ∃ oc, x.order.cap = oc := ⟨_, rfl⟩
  obtain ⟨ya, hya⟩ : ∃ ya, y.order.a = ya := ⟨_, rfl⟩
  obtain ⟨yc, hyc⟩ : ∃ yc, y.order.cap = yc := ⟨_, rfl⟩
  have HA := Lib.hid (And.intro hoa hya)
  rw [hoa, hoc] at x16
  rw [hya, hyc] at y16
  clear hP hn1 hn2 hn3 b1 b2 b3 hm hm' h h1 h2 hn hn' hsm hsm' hoa hoc hya hyc
  go_enter Tryz.func27, Tryz.ntmps27
  go_wp2_with fail
  go_loopw [5] (fun i wr => ∃ (k : Nat), k ≤ n ∧ i = .int .i64 (k : Int) ∧ Hid (Below wb.heap.size wb wr)) (fun i _ => n - (intOf i).toNat)
  case atStart => exact ⟨0, Nat.zero_le _, rfl, Lib.hid (Below.refl _ _)⟩
  case round =>
    obtain ⟨k, hk, rfl, HW⟩ := hrel
    have z1 := (HW.out.cell (p := ⟨w.heap.size, 16, none⟩) HS.out.1).trans x16.out
    have z2 := (HW.out.cell (p := ⟨wa.heap.size, 16, none⟩) HS.out.2).trans y16.out
    by_cases c : k < n
    · have c1 : (k : Int) < (n : Int) := by omega
      obtain ⟨⟨xe, d⟩, ⟨ye, d'⟩, hx, hy, hxy⟩ := two_at HE.out.1 (k := k) (by rw [HE.out.2.2.1]; exact c)
      have hdd : d = d' := congrArg Srt.desc hxy
      have hee : xe.er = ye.er := congrArg Srt.e hxy
      subst hdd
      obtain ⟨b, o, eb, -, hb, hcell, hmx⟩ := XL.Mem.at (HO.out.1.below HW.out) hx
      obtain ⟨b', o', eb', -, hb', hcell', hmy⟩ := XL.Mem.at (HO.out.2.below HW.out) hy
      obtain rfl := HA.out.1.symm.trans eb
      obtain rfl := HA.out.2.symm.trans eb'
      have HCA := Lib.hid (fun (wv : World) (hbv : Below wr.heap.size wr wv) => same_any (w := wv) xe ye hee (hmx.below hbv) (hmy.below hbv))
      obtain ⟨op1, kind1, num1, scale1, text1, qual1, a1, cap1, args1⟩ := xe
      obtain ⟨op2, kind2, num2, scale2, text2, qual2, a2, cap2, args2⟩ := ye
      have hcl : ∀ j u, (srk.enc (XE.mk op1 kind1 num1 scale1 text1 qual1 a1 cap1 args1, d))[j]? = some u → wr.cell? ⟨b, o + k * 8 + j, none⟩ = some u := hcell
      have hcl' : ∀ j u, (srk.enc (XE.mk op2 kind2 num2 scale2 text2 qual2 a2 cap2 args2, d))[j]? = some u → wr.cell? ⟨b', o' + k * 8 + j, none⟩ = some u := hcell'
      have q0 := hcl 0 _ rfl
      have q1 := hcl 1 _ rfl
      have q2 := hcl 2 _ rfl
      have q3 := hcl 3 _ rfl
      have q4 := hcl 4 _ rfl
      have q5 := hcl 5 _ rfl
      have q6 := hcl 6 _ rfl
      have q7 := hcl 7 _ rfl
      have p0 := hcl' 0 _ rfl
      have p1 := hcl' 1 _ rfl
      have p2 := hcl' 2 _ rfl
      have p3 := hcl' 3 _ rfl
      have p4 := hcl' 4 _ rfl
      have p5 := hcl' 5 _ rfl
      have p6 := hcl' 6 _ rfl
      have p7 := hcl' 7 _ rfl
      rw [Nat.add_zero] at q0 p0
      have HK := Lib.hid (fun (w0 : World) (hb0 : Below wr.heap.size wr w0) => show Below wr.heap.size wr w0 ∧ w0.cell? ⟨w.heap.size, 16, none⟩ = some (.slice (some ⟨b, o, none⟩) n oc) ∧ w0.cell? ⟨wa.heap.size, 16, none⟩ = some (.slice (some ⟨b', o', none⟩) n yc) ∧ w0.cell? ⟨b, o + k * 8, none⟩ = some (.int .i64 op1) ∧ w0.cell? ⟨b, o + k * 8 + 1, none⟩ = some (.slice a1 args1.length cap1) ∧ w0.cell? ⟨b, o + k * 8 + 2, none⟩ = some (.int .i64 kind1) ∧ w0.cell? ⟨b, o + k * 8 + 3, none⟩ = some (.int .i64 num1) ∧ w0.cell? ⟨b, o + k * 8 + 4, none⟩ = some (.int .i64 scale1) ∧ w0.cell? ⟨b, o + k * 8 + 5, none⟩ = some (.string text1) ∧ w0.cell? ⟨b, o + k * 8 + 6, none⟩ = some (.string qual1) ∧ w0.cell? ⟨b, o + k * 8 + 7, none⟩ = some (.bool d) ∧ w0.cell? ⟨b', o' + k * 8, none⟩ = some (.int .i64 op2) ∧ w0.cell? ⟨b', o' + k * 8 + 1, none⟩ = some (.slice a2 args2.length cap2) ∧ w0.cell? ⟨b', o' + k * 8 + 2, none⟩ = some (.int .i64 kind2) ∧ w0.cell? ⟨b', o' + k * 8 + 3, none⟩ = some (.int .i64 num2) ∧ w0.cell? ⟨b', o' + k * 8 + 4, none⟩ = some (.int .i64 scale2) ∧ w0.cell? ⟨b', o' + k * 8 + 5, none⟩ = some (.string text2) ∧ w0.cell? ⟨b', o' + k * 8 + 6, none⟩ = some (.string qual2) ∧ w0.cell? ⟨b', o' + k * 8 + 7, none⟩ = some (.bool d) from
        ⟨hb0, (hb0.cell (p := ⟨w.heap.size, 16, none⟩) (Nat.lt_of_lt_of_le HS.out.1 HW.out.size)).trans z1, (hb0.cell (p := ⟨wa.heap.size, 16, none⟩) (Nat.lt_of_lt_of_le HS.out.2 HW.out.size)).trans z2, (hb0.cell (by exact hb)).trans q0, (hb0.cell (by exact hb)).trans q1, (hb0.cell (by exact hb)).trans q2, (hb0.cell (by exact hb)).trans q3, (hb0.cell (by exact hb)).trans q4, (hb0.cell (by exact hb)).trans q5, (hb0.cell (by exact hb)).trans q6, (hb0.cell (by exact hb)).trans q7, (hb0.cell (by exact hb')).trans p0, (hb0.cell (by exact hb')).trans p1, (hb0.cell (by exact hb')).trans p2, (hb0.cell (by exact hb')).trans p3, (hb0.cell (by exact hb')).trans p4, (hb0.cell (by exact hb')).trans p5, (hb0.cell (by exact hb')).trans p6, (hb0.cell (by exact hb')).trans p7⟩)
      simp only [XE.val] at HCA
      have hwk : wrap64 ((k : Int) + 1) = ((k + 1 : Nat) : Int) := by unfold wrap64 maxLen at *; omega
      clear hx hy hcell hcell' hcl hcl' hmx hmy hee hxy eb eb'
      go_wp2_with fail
      go_region_held3 (fun w0 => Below wr.heap.size wr w0 ∧ w0.cell? ⟨w.heap.size, 16, none⟩ = some (.slice (some ⟨b, o, none⟩) n oc) ∧ w0.cell? ⟨wa.heap.size, 16, none⟩ = some (.slice (some ⟨b', o', none⟩) n yc) ∧ w0.cell? ⟨b, o + k * 8, none⟩ = some (.int .i64 op1) ∧ w0.cell? ⟨b, o + k * 8 + 1, none⟩ = some (.slice a1 args1.length cap1) ∧ w0.cell? ⟨b, o + k * 8 + 2, none⟩ = some (.int .i64 kind1) ∧ w0.cell? ⟨b, o + k * 8 + 3, none⟩ = some (.int .i64 num1) ∧ w0.cell? ⟨b, o + k * 8 + 4, none⟩ = some (.int .i64 scale1) ∧ w0.cell? ⟨b, o + k * 8 + 5, none⟩ = some (.string text1) ∧ w0.cell? ⟨b, o + k * 8 + 6, none⟩ = some (.string qual1) ∧ w0.cell? ⟨b, o + k * 8 + 7, none⟩ = some (.bool d) ∧ w0.cell? ⟨b', o' + k * 8, none⟩ = some (.int .i64 op2) ∧ w0.cell? ⟨b', o' + k * 8 + 1, none⟩ = some (.slice a2 args2.length cap2) ∧ w0.cell? ⟨b', o' + k * 8 + 2, none⟩ = some (.int .i64 kind2) ∧ w0.cell? ⟨b', o' + k * 8 + 3, none⟩ = some (.int .i64 num2) ∧ w0.cell? ⟨b', o' + k * 8 + 4, none⟩ = some (.int .i64 scale2) ∧ w0.cell? ⟨b', o' + k * 8 + 5, none⟩ = some (.string text2) ∧ w0.cell? ⟨b', o' + k * 8 + 6, none⟩ = some (.string qual2) ∧ w0.cell? ⟨b', o' + k * 8 + 7, none⟩ = some (.bool d))
        (first | exact HK.out _ (Below.refl _ _) | exact HK.out _ (Below.refl _ _).drew | exact HK.out _ hbx)
        (first | (go_at_call 25; refine (HCA.out _ (And.left (by assumption))).mono ?_; rintro e w1 ⟨rfl, hbx0⟩; have hbx : Below wr.heap.size wr w1 := clq (by assumption) hbx0))
      all_goals
        go_wp2_with fail
        refine ⟨⟨k + 1, by omega, by rw [hwk], Lib.hid (HW.out.trans (hbx.mono HW.out.size))⟩, ?_⟩
        rw [hwk]
        simp [intOf]
        omega
    · have c2 : decide ((k : Int) < (n : Int)) = false := by simp; omega
      obtain rfl : k = n := by omega
      have HWQ := HW
      clear HW HO
      obtain ⟨oa2, hoa⟩ : ∃ oa2, x.sets.a = oa2 := ⟨_, rfl⟩
      obtain ⟨oc2, hoc⟩ : ∃ oc2, x.sets.cap = oc2 := ⟨_, rfl⟩
      obtain ⟨ya2, hya⟩ : ∃ ya2, y.sets.a = ya2 := ⟨_, rfl⟩
      obtain ⟨yc2, hyc⟩ : ∃ yc2, y.sets.cap = yc2 := ⟨_, rfl⟩
      clear HA
      have HA := Lib.hid (And.intro hoa hya)
      rw [hoa, hoc] at x17
      rw [hya, hyc] at y17
      clear hoa hya hoc hyc x16 y16
      go_wp2_with fail
      go_loopw [6] (fun i wr => ∃ (j : Nat), j ≤ m ∧ i = .int .i64 (j : Int) ∧ Hid (Below wb.heap.size wb wr)) (fun i _ => m - (intOf i).toNat)
      case atStart => exact ⟨0, Nat.zero_le _, rfl, HWQ⟩
      case round =>
       clear z1 z2
       obtain ⟨j, hj, rfl, HW⟩ := hrel
       have z1 := (HW.out.cell (p := ⟨w.heap.size, 17, none⟩) HS.out.1).trans x17.out
       have z2 := (HW.out.cell (p := ⟨wa.heap.size, 17, none⟩) HS.out.2).trans y17.out
       by_cases c : j < m
       · skip
         have c1 : (j : Int) < (m : Int) := by omega
         obtain ⟨⟨d, xe⟩, ⟨d', ye⟩, hx, hy, hxy⟩ := two_at HE.out.2.1 (k := j) (by rw [HE.out.2.2.2]; exact c)
         have hdd : d = d' := congrArg Se.col hxy
         have hee : xe.er = ye.er := congrArg Se.e hxy
         subst hdd
         obtain ⟨b, o, eb, -, hb, hcell, hmx⟩ := XL.Mem.at (HT.out.1.below HW.out) hx
         obtain ⟨b', o', eb', -, hb', hcell', hmy⟩ := XL.Mem.at (HT.out.2.below HW.out) hy
         obtain rfl := HA.out.1.symm.trans eb
         obtain rfl := HA.out.2.symm.trans eb'
         have HCA := Lib.hid (fun (wv : World) (hbv : Below wr.heap.size wr wv) => same_any (w := wv) xe ye hee (hmx.below hbv) (hmy.below hbv))
         obtain ⟨op1, kind1, num1, scale1, text1, qual1, a1, cap1, args1⟩ := xe
         obtain ⟨op2, kind2, num2, scale2, text2, qual2, a2, cap2, args2⟩ := ye
         have hcl : ∀ i u, (sek.enc (d, XE.mk op1 kind1 num1 scale1 text1 qual1 a1 cap1 args1))[i]? = some u → wr.cell? ⟨b, o + j * 8 + i, none⟩ = some u := hcell
         have hcl' : ∀ i u, (sek.enc (d, XE.mk op2 kind2 num2 scale2 text2 qual2 a2 cap2 args2))[i]? = some u → wr.cell? ⟨b', o' + j * 8 + i, none⟩ = some u := hcell'
         have q0 := hcl 0 _ rfl
         have q1 := hcl 1 _ rfl
         have q2 := hcl 2 _ rfl
         have q3 := hcl 3 _ rfl
         have q4 := hcl 4 _ rfl
         have q5 := hcl 5 _ rfl
         have q6 := hcl 6 _ rfl
         have q7 := hcl 7 _ rfl
         have p0 := hcl' 0 _ rfl
         have p1 := hcl' 1 _ rfl
         have p2 := hcl' 2 _ rfl
         have p3 := hcl' 3 _ rfl
         have p4 := hcl' 4 _ rfl
         have p5 := hcl' 5 _ rfl
         have p6 := hcl' 6 _ rfl
         have p7 := hcl' 7 _ rfl
         rw [Nat.add_zero] at q0 p0
         have HK := Lib.hid (fun (w0 : World) (hb0 : Below wr.heap.size wr w0) => show Below wr.heap.size wr w0 ∧ w0.cell? ⟨w.heap.size, 17, none⟩ = some (.slice (some ⟨b, o, none⟩) m oc2) ∧ w0.cell? ⟨wa.heap.size, 17, none⟩ = some (.slice (some ⟨b', o', none⟩) m yc2) ∧ w0.cell? ⟨b, o + j * 8, none⟩ = some (.string (strB d)) ∧ w0.cell? ⟨b, o + j * 8 + 1, none⟩ = some (.int .i64 op1) ∧ w0.cell? ⟨b, o + j * 8 + 2, none⟩ = some (.slice a1 args1.length cap1) ∧ w0.cell? ⟨b, o + j * 8 + 3, none⟩ = some (.int .i64 kind1) ∧ w0.cell? ⟨b, o + j * 8 + 4, none⟩ = some (.int .i64 num1) ∧ w0.cell? ⟨b, o + j * 8 + 5, none⟩ = some (.int .i64 scale1) ∧ w0.cell? ⟨b, o + j * 8 + 6, none⟩ = some (.string text1) ∧ w0.cell? ⟨b, o + j * 8 + 7, none⟩ = some (.string qual1) ∧ w0.cell? ⟨b', o' + j * 8, none⟩ = some (.string (strB d)) ∧ w0.cell? ⟨b', o' + j * 8 + 1, none⟩ = some (.int .i64 op2) ∧ w0.cell? ⟨b', o' + j * 8 + 2, none⟩ = some (.slice a2 args2.length cap2) ∧ w0.cell? ⟨b', o' + j * 8 + 3, none⟩ = some (.int .i64 kind2) ∧ w0.cell? ⟨b', o' + j * 8 + 4, none⟩ = some (.int .i64 num2) ∧ w0.cell? ⟨b', o' + j * 8 + 5, none⟩ = some (.int .i64 scale2) ∧ w0.cell? ⟨b', o' + j * 8 + 6, none⟩ = some (.string text2) ∧ w0.cell? ⟨b', o' + j * 8 + 7, none⟩ = some (.string qual2) from
           ⟨hb0, (hb0.cell (p := ⟨w.heap.size, 17, none⟩) (Nat.lt_of_lt_of_le HS.out.1 HW.out.size)).trans z1, (hb0.cell (p := ⟨wa.heap.size, 17, none⟩) (Nat.lt_of_lt_of_le HS.out.2 HW.out.size)).trans z2, (hb0.cell (by exact hb)).trans q0, (hb0.cell (by exact hb)).trans q1, (hb0.cell (by exact hb)).trans q2, (hb0.cell (by exact hb)).trans q3, (hb0.cell (by exact hb)).trans q4, (hb0.cell (by exact hb)).trans q5, (hb0.cell (by exact hb)).trans q6, (hb0.cell (by exact hb)).trans q7, (hb0.cell (by exact hb')).trans p0, (hb0.cell (by exact hb')).trans p1, (hb0.cell (by exact hb')).trans p2, (hb0.cell (by exact hb')).trans p3, (hb0.cell (by exact hb')).trans p4, (hb0.cell (by exact hb')).trans p5, (hb0.cell (by exact hb')).trans p6, (hb0.cell (by exact hb')).trans p7⟩)
         simp only [XE.val] at HCA
         have hwk : wrap64 ((j : Int) + 1) = ((j + 1 : Nat) : Int) := by unfold wrap64 maxLen at *; omega
         clear hx hy hcell hcell' hcl hcl' hmx hmy hee hxy eb eb'
         go_wp2_with fail
         go_region_held3 (fun w0 => Below wr.heap.size wr w0 ∧ w0.cell? ⟨w.heap.size, 17, none⟩ = some (.slice (some ⟨b, o, none⟩) m oc2) ∧ w0.cell? ⟨wa.heap.size, 17, none⟩ = some (.slice (some ⟨b', o', none⟩) m yc2) ∧ w0.cell? ⟨b, o + j * 8, none⟩ = some (.string (strB d)) ∧ w0.cell? ⟨b, o + j * 8 + 1, none⟩ = some (.int .i64 op1) ∧ w0.cell? ⟨b, o + j * 8 + 2, none⟩ = some (.slice a1 args1.length cap1) ∧ w0.cell? ⟨b, o + j * 8 + 3, none⟩ = some (.int .i64 kind1) ∧ w0.cell? ⟨b, o + j * 8 + 4, none⟩ = some (.int .i64 num1) ∧ w0.cell? ⟨b, o + j * 8 + 5, none⟩ = some (.int .i64 scale1) ∧ w0.cell? ⟨b, o + j * 8 + 6, none⟩ = some (.string text1) ∧ w0.cell? ⟨b, o + j * 8 + 7, none⟩ = some (.string qual1) ∧ w0.cell? ⟨b', o' + j * 8, none⟩ = some (.string (strB d)) ∧ w0.cell? ⟨b', o' + j * 8 + 1, none⟩ = some (.int .i64 op2) ∧ w0.cell? ⟨b', o' + j * 8 + 2, none⟩ = some (.slice a2 args2.length cap2) ∧ w0.cell? ⟨b', o' + j * 8 + 3, none⟩ = some (.int .i64 kind2) ∧ w0.cell? ⟨b', o' + j * 8 + 4, none⟩ = some (.int .i64 num2) ∧ w0.cell? ⟨b', o' + j * 8 + 5, none⟩ = some (.int .i64 scale2) ∧ w0.cell? ⟨b', o' + j * 8 + 6, none⟩ = some (.string text2) ∧ w0.cell? ⟨b', o' + j * 8 + 7, none⟩ = some (.string qual2))
           (first | exact HK.out _ (Below.refl _ _) | exact HK.out _ (Below.refl _ _).drew | exact HK.out _ hbx)
           (first | (go_at_call 25; refine (HCA.out _ (And.left (by assumption))).mono ?_; rintro e w1 ⟨rfl, hbx0⟩; have hbx : Below wr.heap.size wr w1 := clq (by assumption) hbx0))
         all_goals
           go_wp2_with fail
           refine ⟨⟨j + 1, by omega, by rw [hwk], Lib.hid (HW.out.trans (hbx.mono HW.out.size))⟩, ?_⟩
           rw [hwk]
           simp [intOf]
           omega
       · have c3 : decide ((j : Int) < (m : Int)) = false := by simp; omega
         obtain rfl : j = m := by omega
         have HF := Lib.hid (show P (.returned (.bool true)) wr by rw [← HP.out]; exact ⟨rfl, HB.out.trans (HW.out.mono HB.out.size)⟩)
         go_wp2_with fail
         exact HF.out
end Go.Proofs.YtofnkfjhmjecjaaGreatDoor

namespace Go.Proofs.YtofnkfjhmjecjaaGreatDoor
set_option maxRecDepth 100000
open Go.RowKit Go.Joins Go.ChangeShapes Go.WideShapes
set_option linter.unusedVariables false
set_option linter.unusedSimpArgs false
theorem XSt.enc_b (x : XSt) : x.enc.toArray[0]? = some (.int .i64 (x.kind : Int)) ∧ x.enc.toArray[1]? = some (.string (strB x.table)) ∧ x.enc.toArray[2]? = some (.string (strB x.index)) ∧ x.enc.toArray[3]? = some x.cols.val ∧ x.enc.toArray[4]? = some x.names.val ∧ x.enc.toArray[5]? = some (.bool x.uniq) ∧ x.enc.toArray[6]? = some x.rows.val ∧ x.enc.toArray[7]? = some x.items.val ∧ x.enc.toArray[8]? = some x.src.val := ⟨rfl, rfl, rfl, rfl, rfl, rfl, rfl, rfl, rfl⟩
theorem XSt.enc_w {x : XSt} {op kind num scale : Int} {text qual : ByteArray} {a : Option Addr} {cap : Nat} {args : List XE} (hz : x.whr = .mk op kind num scale text qual a cap args) :
  x.enc.toArray[9]? = some (.int .i64 op) ∧ x.enc.toArray[10]? = some (.slice a args.length cap) ∧ x.enc.toArray[11]? = some (.int .i64 kind) ∧ x.enc.toArray[12]? = some (.int .i64 num) ∧ x.enc.toArray[13]? = some (.int .i64 scale) ∧ x.enc.toArray[14]? = some (.string text) ∧ x.enc.toArray[15]? = some (.string qual) := by
 obtain ⟨x0, x1, x2, x3, x4, x5, x6, x7, x8, x9, x10, x11⟩ := x
 dsimp only at hz
 subst hz
 exact ⟨rfl, rfl, rfl, rfl, rfl, rfl, rfl⟩
theorem XL.Mem.xe {K : Bl} {w : World} {y : XL XE} (h : XL.Mem exk K w y) : XE.Mem K w (.mk 0 0 0 0 ⟨#[]⟩ ⟨#[]⟩ y.a y.cap y.xs) := by
 unfold XE.Mem
 exact ⟨h.1, h.2.1, h.2.2.1, XE.memL_iff.2 h.2.2.2⟩
theorem sames_any {K K' : Bl} {w : World} (x y : XL XE) (h : x.xs.map XE.er = y.xs.map XE.er) (hm : XL.Mem exk K w x) (hm' : XL.Mem exk K' w y) :
  Calls Tryz.prog 26 #[.slice x.a x.xs.length x.cap, .slice y.a y.xs.length y.cap] w fun e w' => e = .returned (.bool true) ∧ Below w.heap.size w w' :=
 sames_q (same_q (mxL (XE.erL x.xs) + 1)) x.xs y.xs x.a y.a x.cap y.cap (by rw [XE.erL_map, XE.erL_map]; exact h) (fun z hz => Nat.lt_succ_of_le (mxL_mem (by rw [XE.erL_map]; exact List.mem_map_of_mem hz))) hm.xe hm'.xe
def sqT : Nat → Code → Code
 | n + 1, .seq _ b => sqT n b
 | _, c => c
def sqH : Code → Code
 | .seq a _ => a
 | c => c
def blK : Code → Code
 | .block _ c => c
 | c => c
noncomputable def sameLoop (n : Nat) : Code := blK (sqT 1 (sqH (sqT (n + 1) (Tryz.f11.body.getD .skip))))
end Go.Proofs.YtofnkfjhmjecjaaGreatDoor

namespace Go.Proofs.YtofnkfjhmjecjaaGreatDoor
set_option maxRecDepth 100000
open Go.RowKit Go.Joins Go.ChangeShapes Go.WideShapes
set_option linter.unusedVariables false
set_option linter.unusedSimpArgs false
set_option maxHeartbeats 16000000 in
theorem same_l1 {K K' : Bl} {wb : World} {g h : Nat} (x y : XSt) (he : x.er = y.er) (hm : XSt.Mem K wb x) (hm' : XSt.Mem K' wb y) (hX : Bx wb g x.enc.toArray 34) (hY : Bx wb h y.enc.toArray 34)
    (J : Act → World → Prop) (Q' : Exit → Act → World → Prop) (w0 : World) (hb0 : Below wb.heap.size wb w0) (s0 s1 s4 s6 s7 s8 s9 s10 s11 s12 s13 s14 s15 s16 s17 s18 s19 s20 s21 s22 s23 s24 s25 s26 s27 s28 s29 s30 s31 s32 s33 s34 s35 s36 s37 s38 s39 s40 s41 s42 s43 s44 s45 s46 s47 s48 s49 s50 s51 s52 s53 s54 s55 s56 s57 s58 s59 s60 s61 s62 s63 s64 s65 s66 s67 s68 s69 s70 s71 s72 s73 s74 s75 s76 s77 s78 s79 s80 s81 s82 s83 s84 s85 s86 s87 s88 s89 s90 s91 s92 s93 s94 s95 s96 s97 s98 s99 s100 s101 s102 s103 s104 s105 s106 s107 s108 s109 s110 s111 s112 s113 s114 s115 s116 s117 s118 s119 s120 s121 s122 s123 s124 s125 s126 s127 s128 s129 s130 s131 s132 s133 s134 s135 s136 s137 s138 s139 s140 s141 s142 s143 s144 s145 s146 s147 s148 s149 s150 s151 s152 s153 s154 s155 s156 s157 s158 s159 s160 s161 s162 s163 s164 s165 s166 s167 s168 s169 s170 s171 s172 s173 s174 s175 s176 s177 s178 s179 s180 s181 s182 s183 s184 s185 s186 s187 s188 s189 s190 s191 s192 s193 s194 s195 s196 s197 s198 s199 s200 s201 s202 s203 s204 s205 s206 s207 s208 s209 s210 s211 s212 s213 s214 s215 s216 s217 s218 s219 s220 s221 s222 s223 s224 s225 s226 s227 s228 s229 s230 s231 s232 s233 s234 s235 s236 s237 s238 s239 s240 s241 s242 s243 s244 s245 s246 s247 s248 s249 s250 s251 : Value)
    (hk : ∀ (t4 t5 t107 t108 t109 t110 t111 t112 t113 t114 t115 t116 t117 t118 t119 t120 t121 t122 t123 t124 : Value) (w' : World), Below wb.heap.size wb w' → J ⟨List.toArray (s0 :: s1 :: .pointer (some ⟨g, 0, none⟩) :: .pointer (some ⟨h, 0, none⟩) :: t4 :: t5 :: s6 :: s7 :: s8 :: s9 :: s10 :: s11 :: s12 :: s13 :: s14 :: s15 :: s16 :: s17 :: s18 :: s19 :: s20 :: s21 :: s22 :: s23 :: s24 :: s25 :: s26 :: s27 :: s28 :: s29 :: s30 :: s31 :: s32 :: s33 :: s34 :: s35 :: s36 :: s37 :: s38 :: s39 :: s40 :: s41 :: s42 :: s43 :: s44 :: s45 :: s46 :: s47 :: s48 :: s49 :: s50 :: s51 :: s52 :: s53 :: s54 :: s55 :: s56 :: s57 :: s58 :: s59 :: s60 :: s61 :: s62 :: s63 :: s64 :: s65 :: s66 :: s67 :: s68 :: s69 :: s70 :: s71 :: s72 :: s73 :: s74 :: s75 :: s76 :: s77 :: s78 :: s79 :: s80 :: s81 :: s82 :: s83 :: s84 :: s85 :: s86 :: s87 :: s88 :: s89 :: s90 :: s91 :: s92 :: s93 :: s94 :: s95 :: s96 :: s97 :: s98 :: s99 :: s100 :: s101 :: s102 :: s103 :: s104 :: s105 :: s106 :: t107 :: t108 :: t109 :: t110 :: t111 :: t112 :: t113 :: t114 :: t115 :: t116 :: t117 :: t118 :: t119 :: t120 :: t121 :: t122 :: t123 :: t124 :: s125 :: s126 :: s127 :: s128 :: s129 :: s130 :: s131 :: s132 :: s133 :: s134 :: s135 :: s136 :: s137 :: s138 :: s139 :: s140 :: s141 :: s142 :: s143 :: s144 :: s145 :: s146 :: s147 :: s148 :: s149 :: s150 :: s151 :: s152 :: s153 :: s154 :: s155 :: s156 :: s157 :: s158 :: s159 :: s160 :: s161 :: s162 :: s163 :: s164 :: s165 :: s166 :: s167 :: s168 :: s169 :: s170 :: s171 :: s172 :: s173 :: s174 :: s175 :: s176 :: s177 :: s178 :: s179 :: s180 :: s181 :: s182 :: s183 :: s184 :: s185 :: s186 :: s187 :: s188 :: s189 :: s190 :: s191 :: s192 :: s193 :: s194 :: s195 :: s196 :: s197 :: s198 :: s199 :: s200 :: s201 :: s202 :: s203 :: s204 :: s205 :: s206 :: s207 :: s208 :: s209 :: s210 :: s211 :: s212 :: s213 :: s214 :: s215 :: s216 :: s217 :: s218 :: s219 :: s220 :: s221 :: s222 :: s223 :: s224 :: s225 :: s226 :: s227 :: s228 :: s229 :: s230 :: s231 :: s232 :: s233 :: s234 :: s235 :: s236 :: s237 :: s238 :: s239 :: s240 :: s241 :: s242 :: s243 :: s244 :: s245 :: s246 :: s247 :: s248 :: s249 :: s250 :: s251 :: []), []⟩ w') :
    Code.wp Tryz.prog (sameLoop 1) (Exit.inBlock 0 (Exit.then J Q')) ⟨List.toArray (s0 :: s1 :: .pointer (some ⟨g, 0, none⟩) :: .pointer (some ⟨h, 0, none⟩) :: s4 :: .int .i64 0 :: s6 :: s7 :: s8 :: s9 :: s10 :: s11 :: s12 :: s13 :: s14 :: s15 :: s16 :: s17 :: s18 :: s19 :: s20 :: s21 :: s22 :: s23 :: s24 :: s25 :: s26 :: s27 :: s28 :: s29 :: s30 :: s31 :: s32 :: s33 :: s34 :: s35 :: s36 :: s37 :: s38 :: s39 :: s40 :: s41 :: s42 :: s43 :: s44 :: s45 :: s46 :: s47 :: s48 :: s49 :: s50 :: s51 :: s52 :: s53 :: s54 :: s55 :: s56 :: s57 :: s58 :: s59 :: s60 :: s61 :: s62 :: s63 :: s64 :: s65 :: s66 :: s67 :: s68 :: s69 :: s70 :: s71 :: s72 :: s73 :: s74 :: s75 :: s76 :: s77 :: s78 :: s79 :: s80 :: s81 :: s82 :: s83 :: s84 :: s85 :: s86 :: s87 :: s88 :: s89 :: s90 :: s91 :: s92 :: s93 :: s94 :: s95 :: s96 :: s97 :: s98 :: s99 :: s100 :: s101 :: s102 :: s103 :: s104 :: s105 :: s106 :: s107 :: s108 :: s109 :: s110 :: s111 :: s112 :: s113 :: s114 :: s115 :: s116 :: s117 :: s118 :: s119 :: s120 :: s121 :: s122 :: s123 :: s124 :: s125 :: s126 :: s127 :: s128 :: s129 :: s130 :: s131 :: s132 :: s133 :: s134 :: s135 :: s136 :: s137 :: s138 :: s139 :: s140 :: s141 :: s142 :: s143 :: s144 :: s145 :: s146 :: s147 :: s148 :: s149 :: s150 :: s151 :: s152 :: s153 :: s154 :: s155 :: s156 :: s157 :: s158 :: s159 :: s160 :: s161 :: s162 :: s163 :: s164 :: s165 :: s166 :: s167 :: s168 :: s169 :: s170 :: s171 :: s172 :: s173 :: s174 :: s175 :: s176 :: s177 :: s178 :: s179 :: s180 :: s181 :: s182 :: s183 :: s184 :: s185 :: s186 :: s187 :: s188 :: s189 :: s190 :: s191 :: s192 :: s193 :: s194 :: s195 :: s196 :: s197 :: s198 :: s199 :: s200 :: s201 :: s202 :: s203 :: s204 :: s205 :: s206 :: s207 :: s208 :: s209 :: s210 :: s211 :: s212 :: s213 :: s214 :: s215 :: s216 :: s217 :: s218 :: s219 :: s220 :: s221 :: s222 :: s223 :: s224 :: s225 :: s226 :: s227 :: s228 :: s229 :: s230 :: s231 :: s232 :: s233 :: s234 :: s235 :: s236 :: s237 :: s238 :: s239 :: s240 :: s241 :: s242 :: s243 :: s244 :: s245 :: s246 :: s247 :: s248 :: s249 :: s250 :: s251 :: []), []⟩ w0 := by
  have hl : x.cols.xs.map cok.er = y.cols.xs.map cok.er := congrArg Stm.cols he
  obtain ⟨v0, v1, v2, v3, v4, v5, v6, v7, v8⟩ := XSt.enc_b x
  obtain ⟨v0', v1', v2', v3', v4', v5', v6', v7', v8'⟩ := XSt.enc_b y
  have c3 := hX.cell v3
  have d3 := hY.cell v3'
  simp only [XL.val] at c3 d3
  obtain ⟨n3, hl3⟩ : ∃ n, x.cols.xs.length = n := ⟨_, rfl⟩
  have hm3 : y.cols.xs.length = n3 := by have := congrArg List.length hl; simp at this; omega
  rw [hl3] at c3
  rw [hm3] at d3
  have hbn : n3 ≤ maxLen := by rw [← hl3]; exact Nat.le_trans hm.cols.1 hm.cols.2.1
  have HM := Lib.hid (And.intro (And.intro hl hl3) (And.intro hm.cols hm'.cols))
  have HC := Lib.hid (And.intro c3 d3)
  have HS := Lib.hid (And.intro hX.lt hY.lt)
  have HK := Lib.hid hk
  have HWW := Lib.hid hb0
  clear v0 v1 v2 v3 v4 v5 v6 v7 v8 v0' v1' v2' v3' v4' v5' v6' v7' v8' c3 d3 hl3 hm3 hm hm' hX hY he hl hk hb0
  obtain ⟨oa, hoa⟩ : ∃ oa, x.cols.a = oa := ⟨_, rfl⟩
  obtain ⟨oc, hoc⟩ : ∃ oc, x.cols.cap = oc := ⟨_, rfl⟩
  obtain ⟨ya, hya⟩ : ∃ ya, y.cols.a = ya := ⟨_, rfl⟩
  obtain ⟨yc, hyc⟩ : ∃ yc, y.cols.cap = yc := ⟨_, rfl⟩
  have HA := Lib.hid (And.intro hoa hya)
  rw [hoa, hoc, hya, hyc] at HC
  clear hoa hoc hya hyc
  conv => arg 2; whnf
  go_loopw [5] (fun i wr => ∃ (k : Nat), k ≤ n3 ∧ i = .int .i64 (k : Int) ∧ Hid (Below wb.heap.size wb wr)) (fun i _ => n3 - (intOf i).toNat)
  case atStart => exact ⟨0, Nat.zero_le _, rfl, HWW⟩
  case round =>
   clear HWW
   obtain ⟨k, hk, rfl, HW⟩ := hrel
   have z1 := (HW.out.cell (p := ⟨g, 3, none⟩) HS.out.1).trans HC.out.1
   have z2 := (HW.out.cell (p := ⟨h, 3, none⟩) HS.out.2).trans HC.out.2
   by_cases c : k < n3
   · have c1 : (k : Int) < (n3 : Int) := by omega
     obtain ⟨xe, ye, hx, hy, hxy⟩ := two_at HM.out.1.1 (k := k) (by rw [HM.out.1.2]; exact c)
     have hxy : xe = ye := hxy
     subst hxy
     obtain ⟨b, o, eb, -, hb, hcell, hmx⟩ := XL.Mem.at (HM.out.2.1.below HW.out) hx
     obtain ⟨b', o', eb', -, hb', hcell', hmy⟩ := XL.Mem.at (HM.out.2.2.below HW.out) hy
     obtain rfl := HA.out.1.symm.trans eb
     obtain rfl := HA.out.2.symm.trans eb'
     have hcl : ∀ j u, (cok.enc xe)[j]? = some u → wr.cell? ⟨b, o + k * 3 + j, none⟩ = some u := hcell
     have hcl' : ∀ j u, (cok.enc xe)[j]? = some u → wr.cell? ⟨b', o' + k * 3 + j, none⟩ = some u := hcell'
     have q0 := hcl 0 _ rfl
     have q1 := hcl 1 _ rfl
     have q2 := hcl 2 _ rfl
     have p0 := hcl' 0 _ rfl
     have p1 := hcl' 1 _ rfl
     have p2 := hcl' 2 _ rfl
     rw [Nat.add_zero] at q0 p0
     have hwk : wrap64 ((k : Int) + 1) = ((k + 1 : Nat) : Int) := by unfold wrap64 maxLen at *; omega
     clear hx hy hcell hcell' hcl hcl' hmx hmy eb eb'
     go_wp2_with fail
     go_quiet (fail)
     all_goals
      have HWN : Hid (∀ q : Nat, Below wb.heap.size wb (wr.drewN q)) := Lib.hid (fun q => HW.out.trans ⟨rfl, rfl, rfl, Nat.le_refl _, fun _ _ => rfl⟩)
      go_wp2_with fail
      refine ⟨⟨k + 1, Nat.succ_le_of_lt c, by rw [hwk], Lib.hid (HWN.out _)⟩, ?_⟩
      rw [hwk]
      simp [intOf]
      omega
   · have c2 : decide ((k : Int) < (n3 : Int)) = false := by simp; omega
     obtain rfl : k = n3 := by omega
     clear HA HM HC z2
     go_wp2_with fail
     exact HK.out _ _ _ _ _ _ _ _ _ _ _ _ _ _ _ _ _ _ _ _ wr HW.out
end Go.Proofs.YtofnkfjhmjecjaaGreatDoor

namespace Go.Proofs.YtofnkfjhmjecjaaGreatDoor
set_option maxRecDepth 100000
open Go.RowKit Go.Joins Go.ChangeShapes Go.WideShapes
set_option linter.unusedVariables false
set_option linter.unusedSimpArgs false
set_option maxHeartbeats 16000000 in
theorem same_l2 {K K' : Bl} {wb : World} {g h : Nat} (x y : XSt) (he : x.er = y.er) (hm : XSt.Mem K wb x) (hm' : XSt.Mem K' wb y) (hX : Bx wb g x.enc.toArray 34) (hY : Bx wb h y.enc.toArray 34)
    (J : Act → World → Prop) (Q' : Exit → Act → World → Prop) (w0 : World) (hb0 : Below wb.heap.size wb w0) (s0 s1 s4 s5 s7 s8 s9 s10 s11 s12 s13 s14 s15 s16 s17 s18 s19 s20 s21 s22 s23 s24 s25 s26 s27 s28 s29 s30 s31 s32 s33 s34 s35 s36 s37 s38 s39 s40 s41 s42 s43 s44 s45 s46 s47 s48 s49 s50 s51 s52 s53 s54 s55 s56 s57 s58 s59 s60 s61 s62 s63 s64 s65 s66 s67 s68 s69 s70 s71 s72 s73 s74 s75 s76 s77 s78 s79 s80 s81 s82 s83 s84 s85 s86 s87 s88 s89 s90 s91 s92 s93 s94 s95 s96 s97 s98 s99 s100 s101 s102 s103 s104 s105 s106 s107 s108 s109 s110 s111 s112 s113 s114 s115 s116 s117 s118 s119 s120 s121 s122 s123 s124 s125 s126 s127 s128 s129 s130 s131 s132 s133 s134 s135 s136 s137 s138 s139 s140 s141 s142 s143 s144 s145 s146 s147 s148 s149 s150 s151 s152 s153 s154 s155 s156 s157 s158 s159 s160 s161 s162 s163 s164 s165 s166 s167 s168 s169 s170 s171 s172 s173 s174 s175 s176 s177 s178 s179 s180 s181 s182 s183 s184 s185 s186 s187 s188 s189 s190 s191 s192 s193 s194 s195 s196 s197 s198 s199 s200 s201 s202 s203 s204 s205 s206 s207 s208 s209 s210 s211 s212 s213 s214 s215 s216 s217 s218 s219 s220 s221 s222 s223 s224 s225 s226 s227 s228 s229 s230 s231 s232 s233 s234 s235 s236 s237 s238 s239 s240 s241 s242 s243 s244 s245 s246 s247 s248 s249 s250 s251 : Value)
    (hk : ∀ (t4 t6 t125 t126 t127 t128 t129 t130 t131 t132 t133 t134 t135 t136 t137 t138 t139 t140 t141 t142 : Value) (w' : World), Below wb.heap.size wb w' → J ⟨List.toArray (s0 :: s1 :: .pointer (some ⟨g, 0, none⟩) :: .pointer (some ⟨h, 0, none⟩) :: t4 :: s5 :: t6 :: s7 :: s8 :: s9 :: s10 :: s11 :: s12 :: s13 :: s14 :: s15 :: s16 :: s17 :: s18 :: s19 :: s20 :: s21 :: s22 :: s23 :: s24 :: s25 :: s26 :: s27 :: s28 :: s29 :: s30 :: s31 :: s32 :: s33 :: s34 :: s35 :: s36 :: s37 :: s38 :: s39 :: s40 :: s41 :: s42 :: s43 :: s44 :: s45 :: s46 :: s47 :: s48 :: s49 :: s50 :: s51 :: s52 :: s53 :: s54 :: s55 :: s56 :: s57 :: s58 :: s59 :: s60 :: s61 :: s62 :: s63 :: s64 :: s65 :: s66 :: s67 :: s68 :: s69 :: s70 :: s71 :: s72 :: s73 :: s74 :: s75 :: s76 :: s77 :: s78 :: s79 :: s80 :: s81 :: s82 :: s83 :: s84 :: s85 :: s86 :: s87 :: s88 :: s89 :: s90 :: s91 :: s92 :: s93 :: s94 :: s95 :: s96 :: s97 :: s98 :: s99 :: s100 :: s101 :: s102 :: s103 :: s104 :: s105 :: s106 :: s107 :: s108 :: s109 :: s110 :: s111 :: s112 :: s113 :: s114 :: s115 :: s116 :: s117 :: s118 :: s119 :: s120 :: s121 :: s122 :: s123 :: s124 :: t125 :: t126 :: t127 :: t128 :: t129 :: t130 :: t131 :: t132 :: t133 :: t134 :: t135 :: t136 :: t137 :: t138 :: t139 :: t140 :: t141 :: t142 :: s143 :: s144 :: s145 :: s146 :: s147 :: s148 :: s149 :: s150 :: s151 :: s152 :: s153 :: s154 :: s155 :: s156 :: s157 :: s158 :: s159 :: s160 :: s161 :: s162 :: s163 :: s164 :: s165 :: s166 :: s167 :: s168 :: s169 :: s170 :: s171 :: s172 :: s173 :: s174 :: s175 :: s176 :: s177 :: s178 :: s179 :: s180 :: s181 :: s182 :: s183 :: s184 :: s185 :: s186 :: s187 :: s188 :: s189 :: s190 :: s191 :: s192 :: s193 :: s194 :: s195 :: s196 :: s197 :: s198 :: s199 :: s200 :: s201 :: s202 :: s203 :: s204 :: s205 :: s206 :: s207 :: s208 :: s209 :: s210 :: s211 :: s212 :: s213 :: s214 :: s215 :: s216 :: s217 :: s218 :: s219 :: s220 :: s221 :: s222 :: s223 :: s224 :: s225 :: s226 :: s227 :: s228 :: s229 :: s230 :: s231 :: s232 :: s233 :: s234 :: s235 :: s236 :: s237 :: s238 :: s239 :: s240 :: s241 :: s242 :: s243 :: s244 :: s245 :: s246 :: s247 :: s248 :: s249 :: s250 :: s251 :: []), []⟩ w') :
    Code.wp Tryz.prog (sameLoop 2) (Exit.inBlock 2 (Exit.then J Q')) ⟨List.toArray (s0 :: s1 :: .pointer (some ⟨g, 0, none⟩) :: .pointer (some ⟨h, 0, none⟩) :: s4 :: s5 :: .int .i64 0 :: s7 :: s8 :: s9 :: s10 :: s11 :: s12 :: s13 :: s14 :: s15 :: s16 :: s17 :: s18 :: s19 :: s20 :: s21 :: s22 :: s23 :: s24 :: s25 :: s26 :: s27 :: s28 :: s29 :: s30 :: s31 :: s32 :: s33 :: s34 :: s35 :: s36 :: s37 :: s38 :: s39 :: s40 :: s41 :: s42 :: s43 :: s44 :: s45 :: s46 :: s47 :: s48 :: s49 :: s50 :: s51 :: s52 :: s53 :: s54 :: s55 :: s56 :: s57 :: s58 :: s59 :: s60 :: s61 :: s62 :: s63 :: s64 :: s65 :: s66 :: s67 :: s68 :: s69 :: s70 :: s71 :: s72 :: s73 :: s74 :: s75 :: s76 :: s77 :: s78 :: s79 :: s80 :: s81 :: s82 :: s83 :: s84 :: s85 :: s86 :: s87 :: s88 :: s89 :: s90 :: s91 :: s92 :: s93 :: s94 :: s95 :: s96 :: s97 :: s98 :: s99 :: s100 :: s101 :: s102 :: s103 :: s104 :: s105 :: s106 :: s107 :: s108 :: s109 :: s110 :: s111 :: s112 :: s113 :: s114 :: s115 :: s116 :: s117 :: s118 :: s119 :: s120 :: s121 :: s122 :: s123 :: s124 :: s125 :: s126 :: s127 :: s128 :: s129 :: s130 :: s131 :: s132 :: s133 :: s134 :: s135 :: s136 :: s137 :: s138 :: s139 :: s140 :: s141 :: s142 :: s143 :: s144 :: s145 :: s146 :: s147 :: s148 :: s149 :: s150 :: s151 :: s152 :: s153 :: s154 :: s155 :: s156 :: s157 :: s158 :: s159 :: s160 :: s161 :: s162 :: s163 :: s164 :: s165 :: s166 :: s167 :: s168 :: s169 :: s170 :: s171 :: s172 :: s173 :: s174 :: s175 :: s176 :: s177 :: s178 :: s179 :: s180 :: s181 :: s182 :: s183 :: s184 :: s185 :: s186 :: s187 :: s188 :: s189 :: s190 :: s191 :: s192 :: s193 :: s194 :: s195 :: s196 :: s197 :: s198 :: s199 :: s200 :: s201 :: s202 :: s203 :: s204 :: s205 :: s206 :: s207 :: s208 :: s209 :: s210 :: s211 :: s212 :: s213 :: s214 :: s215 :: s216 :: s217 :: s218 :: s219 :: s220 :: s221 :: s222 :: s223 :: s224 :: s225 :: s226 :: s227 :: s228 :: s229 :: s230 :: s231 :: s232 :: s233 :: s234 :: s235 :: s236 :: s237 :: s238 :: s239 :: s240 :: s241 :: s242 :: s243 :: s244 :: s245 :: s246 :: s247 :: s248 :: s249 :: s250 :: s251 :: []), []⟩ w0 := by
  have hl : x.names.xs.map stk.er = y.names.xs.map stk.er := congrArg Stm.names he
  obtain ⟨v0, v1, v2, v3, v4, v5, v6, v7, v8⟩ := XSt.enc_b x
  obtain ⟨v0', v1', v2', v3', v4', v5', v6', v7', v8'⟩ := XSt.enc_b y
  have c4 := hX.cell v4
  have d4 := hY.cell v4'
  simp only [XL.val] at c4 d4
  obtain ⟨n4, hl4⟩ : ∃ n, x.names.xs.length = n := ⟨_, rfl⟩
  have hm4 : y.names.xs.length = n4 := by have := congrArg List.length hl; simp at this; omega
  rw [hl4] at c4
  rw [hm4] at d4
  have hbn : n4 ≤ maxLen := by rw [← hl4]; exact Nat.le_trans hm.names.1 hm.names.2.1
  have HM := Lib.hid (And.intro (And.intro hl hl4) (And.intro hm.names hm'.names))
  have HC := Lib.hid (And.intro c4 d4)
  have HS := Lib.hid (And.intro hX.lt hY.lt)
  have HK := Lib.hid hk
  have HWW := Lib.hid hb0
  clear v0 v1 v2 v3 v4 v5 v6 v7 v8 v0' v1' v2' v3' v4' v5' v6' v7' v8' c4 d4 hl4 hm4 hm hm' hX hY he hl hk hb0
  obtain ⟨oa, hoa⟩ : ∃ oa, x.names.a = oa := ⟨_, rfl⟩
  obtain ⟨oc, hoc⟩ : ∃ oc, x.names.cap = oc := ⟨_, rfl⟩
  obtain ⟨ya, hya⟩ : ∃ ya, y.names.a = ya := ⟨_, rfl⟩
  obtain ⟨yc, hyc⟩ : ∃ yc, y.names.cap = yc := ⟨_, rfl⟩
  have HA := Lib.hid (And.intro hoa hya)
  rw [hoa, hoc, hya, hyc] at HC
  clear hoa hoc hya hyc
  conv => arg 2; whnf
  go_loopw [6] (fun i wr => ∃ (k : Nat), k ≤ n4 ∧ i = .int .i64 (k : Int) ∧ Hid (Below wb.heap.size wb wr)) (fun i _ => n4 - (intOf i).toNat)
  case atStart => exact ⟨0, Nat.zero_le _, rfl, HWW⟩
  case round =>
   clear HWW
   obtain ⟨k, hk, rfl, HW⟩ := hrel
   have z1 := (HW.out.cell (p := ⟨g, 4, none⟩) HS.out.1).trans HC.out.1
   have z2 := (HW.out.cell (p := ⟨h, 4, none⟩) HS.out.2).trans HC.out.2
   by_cases c : k < n4
   · have c1 : (k : Int) < (n4 : Int) := by omega
     obtain ⟨xe, ye, hx, hy, hxy⟩ := two_at HM.out.1.1 (k := k) (by rw [HM.out.1.2]; exact c)
     have hxy : xe = ye := hxy
     subst hxy
     obtain ⟨b, o, eb, -, hb, hcell, hmx⟩ := XL.Mem.at (HM.out.2.1.below HW.out) hx
     obtain ⟨b', o', eb', -, hb', hcell', hmy⟩ := XL.Mem.at (HM.out.2.2.below HW.out) hy
     obtain rfl := HA.out.1.symm.trans eb
     obtain rfl := HA.out.2.symm.trans eb'
     have hcl : ∀ j u, (stk.enc xe)[j]? = some u → wr.cell? ⟨b, o + k * 1 + j, none⟩ = some u := hcell
     have hcl' : ∀ j u, (stk.enc xe)[j]? = some u → wr.cell? ⟨b', o' + k * 1 + j, none⟩ = some u := hcell'
     have q0 := hcl 0 _ rfl
     have p0 := hcl' 0 _ rfl
     rw [Nat.add_zero] at q0 p0
     rw [Nat.mul_one] at q0 p0
     have hwk : wrap64 ((k : Int) + 1) = ((k + 1 : Nat) : Int) := by unfold wrap64 maxLen at *; omega
     clear hx hy hcell hcell' hcl hcl' hmx hmy eb eb'
     go_wp2_with fail
     go_quiet (fail)
     all_goals
      have HWN : Hid (∀ q : Nat, Below wb.heap.size wb (wr.drewN q)) := Lib.hid (fun q => HW.out.trans ⟨rfl, rfl, rfl, Nat.le_refl _, fun _ _ => rfl⟩)
      go_wp2_with fail
      refine ⟨⟨k + 1, Nat.succ_le_of_lt c, by rw [hwk], Lib.hid (HWN.out _)⟩, ?_⟩
      rw [hwk]
      simp [intOf]
      omega
   · have c2 : decide ((k : Int) < (n4 : Int)) = false := by simp; omega
     obtain rfl : k = n4 := by omega
     clear HA HM HC z2
     go_wp2_with fail
     exact HK.out _ _ _ _ _ _ _ _ _ _ _ _ _ _ _ _ _ _ _ _ wr HW.out
end Go.Proofs.YtofnkfjhmjecjaaGreatDoor

namespace Go.Proofs.YtofnkfjhmjecjaaGreatDoor
set_option maxRecDepth 100000
open Go.RowKit Go.Joins Go.ChangeShapes Go.WideShapes
set_option linter.unusedVariables false
set_option linter.unusedSimpArgs false
set_option maxHeartbeats 16000000 in
theorem same_l3 {K K' : Bl} {wb : World} {g h : Nat} (x y : XSt) (he : x.er = y.er) (hm : XSt.Mem K wb x) (hm' : XSt.Mem K' wb y) (hX : Bx wb g x.enc.toArray 34) (hY : Bx wb h y.enc.toArray 34)
    (J : Act → World → Prop) (Q' : Exit → Act → World → Prop) (w0 : World) (hb0 : Below wb.heap.size wb w0) (s0 s1 s4 s5 s6 s8 s9 s10 s11 s12 s13 s14 s15 s16 s17 s18 s19 s20 s21 s22 s23 s24 s25 s26 s27 s28 s29 s30 s31 s32 s33 s34 s35 s36 s37 s38 s39 s40 s41 s42 s43 s44 s45 s46 s47 s48 s49 s50 s51 s52 s53 s54 s55 s56 s57 s58 s59 s60 s61 s62 s63 s64 s65 s66 s67 s68 s69 s70 s71 s72 s73 s74 s75 s76 s77 s78 s79 s80 s81 s82 s83 s84 s85 s86 s87 s88 s89 s90 s91 s92 s93 s94 s95 s96 s97 s98 s99 s100 s101 s102 s103 s104 s105 s106 s107 s108 s109 s110 s111 s112 s113 s114 s115 s116 s117 s118 s119 s120 s121 s122 s123 s124 s125 s126 s127 s128 s129 s130 s131 s132 s133 s134 s135 s136 s137 s138 s139 s140 s141 s142 s143 s144 s145 s146 s147 s148 s149 s150 s151 s152 s153 s154 s155 s156 s157 s158 s159 s160 s161 s162 s163 s164 s165 s166 s167 s168 s169 s170 s171 s172 s173 s174 s175 s176 s177 s178 s179 s180 s181 s182 s183 s184 s185 s186 s187 s188 s189 s190 s191 s192 s193 s194 s195 s196 s197 s198 s199 s200 s201 s202 s203 s204 s205 s206 s207 s208 s209 s210 s211 s212 s213 s214 s215 s216 s217 s218 s219 s220 s221 s222 s223 s224 s225 s226 s227 s228 s229 s230 s231 s232 s233 s234 s235 s236 s237 s238 s239 s240 s241 s242 s243 s244 s245 s246 s247 s248 s249 s250 s251 : Value)
    (hk : ∀ (t4 t7 t143 t144 t145 t146 t147 t148 t149 t150 t151 t152 t153 t154 t155 t156 t157 t158 t159 t160 t161 : Value) (w' : World), Below wb.heap.size wb w' → J ⟨List.toArray (s0 :: s1 :: .pointer (some ⟨g, 0, none⟩) :: .pointer (some ⟨h, 0, none⟩) :: t4 :: s5 :: s6 :: t7 :: s8 :: s9 :: s10 :: s11 :: s12 :: s13 :: s14 :: s15 :: s16 :: s17 :: s18 :: s19 :: s20 :: s21 :: s22 :: s23 :: s24 :: s25 :: s26 :: s27 :: s28 :: s29 :: s30 :: s31 :: s32 :: s33 :: s34 :: s35 :: s36 :: s37 :: s38 :: s39 :: s40 :: s41 :: s42 :: s43 :: s44 :: s45 :: s46 :: s47 :: s48 :: s49 :: s50 :: s51 :: s52 :: s53 :: s54 :: s55 :: s56 :: s57 :: s58 :: s59 :: s60 :: s61 :: s62 :: s63 :: s64 :: s65 :: s66 :: s67 :: s68 :: s69 :: s70 :: s71 :: s72 :: s73 :: s74 :: s75 :: s76 :: s77 :: s78 :: s79 :: s80 :: s81 :: s82 :: s83 :: s84 :: s85 :: s86 :: s87 :: s88 :: s89 :: s90 :: s91 :: s92 :: s93 :: s94 :: s95 :: s96 :: s97 :: s98 :: s99 :: s100 :: s101 :: s102 :: s103 :: s104 :: s105 :: s106 :: s107 :: s108 :: s109 :: s110 :: s111 :: s112 :: s113 :: s114 :: s115 :: s116 :: s117 :: s118 :: s119 :: s120 :: s121 :: s122 :: s123 :: s124 :: s125 :: s126 :: s127 :: s128 :: s129 :: s130 :: s131 :: s132 :: s133 :: s134 :: s135 :: s136 :: s137 :: s138 :: s139 :: s140 :: s141 :: s142 :: t143 :: t144 :: t145 :: t146 :: t147 :: t148 :: t149 :: t150 :: t151 :: t152 :: t153 :: t154 :: t155 :: t156 :: t157 :: t158 :: t159 :: t160 :: t161 :: s162 :: s163 :: s164 :: s165 :: s166 :: s167 :: s168 :: s169 :: s170 :: s171 :: s172 :: s173 :: s174 :: s175 :: s176 :: s177 :: s178 :: s179 :: s180 :: s181 :: s182 :: s183 :: s184 :: s185 :: s186 :: s187 :: s188 :: s189 :: s190 :: s191 :: s192 :: s193 :: s194 :: s195 :: s196 :: s197 :: s198 :: s199 :: s200 :: s201 :: s202 :: s203 :: s204 :: s205 :: s206 :: s207 :: s208 :: s209 :: s210 :: s211 :: s212 :: s213 :: s214 :: s215 :: s216 :: s217 :: s218 :: s219 :: s220 :: s221 :: s222 :: s223 :: s224 :: s225 :: s226 :: s227 :: s228 :: s229 :: s230 :: s231 :: s232 :: s233 :: s234 :: s235 :: s236 :: s237 :: s238 :: s239 :: s240 :: s241 :: s242 :: s243 :: s244 :: s245 :: s246 :: s247 :: s248 :: s249 :: s250 :: s251 :: []), []⟩ w') :
    Code.wp Tryz.prog (sameLoop 3) (Exit.inBlock 4 (Exit.then J Q')) ⟨List.toArray (s0 :: s1 :: .pointer (some ⟨g, 0, none⟩) :: .pointer (some ⟨h, 0, none⟩) :: s4 :: s5 :: s6 :: .int .i64 0 :: s8 :: s9 :: s10 :: s11 :: s12 :: s13 :: s14 :: s15 :: s16 :: s17 :: s18 :: s19 :: s20 :: s21 :: s22 :: s23 :: s24 :: s25 :: s26 :: s27 :: s28 :: s29 :: s30 :: s31 :: s32 :: s33 :: s34 :: s35 :: s36 :: s37 :: s38 :: s39 :: s40 :: s41 :: s42 :: s43 :: s44 :: s45 :: s46 :: s47 :: s48 :: s49 :: s50 :: s51 :: s52 :: s53 :: s54 :: s55 :: s56 :: s57 :: s58 :: s59 :: s60 :: s61 :: s62 :: s63 :: s64 :: s65 :: s66 :: s67 :: s68 :: s69 :: s70 :: s71 :: s72 :: s73 :: s74 :: s75 :: s76 :: s77 :: s78 :: s79 :: s80 :: s81 :: s82 :: s83 :: s84 :: s85 :: s86 :: s87 :: s88 :: s89 :: s90 :: s91 :: s92 :: s93 :: s94 :: s95 :: s96 :: s97 :: s98 :: s99 :: s100 :: s101 :: s102 :: s103 :: s104 :: s105 :: s106 :: s107 :: s108 :: s109 :: s110 :: s111 :: s112 :: s113 :: s114 :: s115 :: s116 :: s117 :: s118 :: s119 :: s120 :: s121 :: s122 :: s123 :: s124 :: s125 :: s126 :: s127 :: s128 :: s129 :: s130 :: s131 :: s132 :: s133 :: s134 :: s135 :: s136 :: s137 :: s138 :: s139 :: s140 :: s141 :: s142 :: s143 :: s144 :: s145 :: s146 :: s147 :: s148 :: s149 :: s150 :: s151 :: s152 :: s153 :: s154 :: s155 :: s156 :: s157 :: s158 :: s159 :: s160 :: s161 :: s162 :: s163 :: s164 :: s165 :: s166 :: s167 :: s168 :: s169 :: s170 :: s171 :: s172 :: s173 :: s174 :: s175 :: s176 :: s177 :: s178 :: s179 :: s180 :: s181 :: s182 :: s183 :: s184 :: s185 :: s186 :: s187 :: s188 :: s189 :: s190 :: s191 :: s192 :: s193 :: s194 :: s195 :: s196 :: s197 :: s198 :: s199 :: s200 :: s201 :: s202 :: s203 :: s204 :: s205 :: s206 :: s207 :: s208 :: s209 :: s210 :: s211 :: s212 :: s213 :: s214 :: s215 :: s216 :: s217 :: s218 :: s219 :: s220 :: s221 :: s222 :: s223 :: s224 :: s225 :: s226 :: s227 :: s228 :: s229 :: s230 :: s231 :: s232 :: s233 :: s234 :: s235 :: s236 :: s237 :: s238 :: s239 :: s240 :: s241 :: s242 :: s243 :: s244 :: s245 :: s246 :: s247 :: s248 :: s249 :: s250 :: s251 :: []), []⟩ w0 := by
  have hl : x.rows.xs.map rok.er = y.rows.xs.map rok.er := congrArg Stm.rows he
  obtain ⟨v0, v1, v2, v3, v4, v5, v6, v7, v8⟩ := XSt.enc_b x
  obtain ⟨v0', v1', v2', v3', v4', v5', v6', v7', v8'⟩ := XSt.enc_b y
  have c6 := hX.cell v6
  have d6 := hY.cell v6'
  simp only [XL.val] at c6 d6
  obtain ⟨n6, hl6⟩ : ∃ n, x.rows.xs.length = n := ⟨_, rfl⟩
  have hm6 : y.rows.xs.length = n6 := by have := congrArg List.length hl; simp at this; omega
  rw [hl6] at c6
  rw [hm6] at d6
  have hbn : n6 ≤ maxLen := by rw [← hl6]; exact Nat.le_trans hm.rows.1 hm.rows.2.1
  have HM := Lib.hid (And.intro (And.intro hl hl6) (And.intro hm.rows hm'.rows))
  have HC := Lib.hid (And.intro c6 d6)
  have HS := Lib.hid (And.intro hX.lt hY.lt)
  have HK := Lib.hid hk
  have HWW := Lib.hid hb0
  clear v0 v1 v2 v3 v4 v5 v6 v7 v8 v0' v1' v2' v3' v4' v5' v6' v7' v8' c6 d6 hl6 hm6 hm hm' hX hY he hl hk hb0
  obtain ⟨oa, hoa⟩ : ∃ oa, x.rows.a = oa := ⟨_, rfl⟩
  obtain ⟨oc, hoc⟩ : ∃ oc, x.rows.cap = oc := ⟨_, rfl⟩
  obtain ⟨ya, hya⟩ : ∃ ya, y.rows.a = ya := ⟨_, rfl⟩
  obtain ⟨yc, hyc⟩ : ∃ yc, y.rows.cap = yc := ⟨_, rfl⟩
  have HA := Lib.hid (And.intro hoa hya)
  rw [hoa, hoc, hya, hyc] at HC
  clear hoa hoc hya hyc
  conv => arg 2; whnf
  go_loopw [7] (fun i wr => ∃ (k : Nat), k ≤ n6 ∧ i = .int .i64 (k : Int) ∧ Hid (Below wb.heap.size wb wr)) (fun i _ => n6 - (intOf i).toNat)
  case atStart => exact ⟨0, Nat.zero_le _, rfl, HWW⟩
  case round =>
   clear HWW
   obtain ⟨k, hk, rfl, HW⟩ := hrel
   have z1 := (HW.out.cell (p := ⟨g, 6, none⟩) HS.out.1).trans HC.out.1
   have z2 := (HW.out.cell (p := ⟨h, 6, none⟩) HS.out.2).trans HC.out.2
   by_cases c : k < n6
   · have c1 : (k : Int) < (n6 : Int) := by omega
     obtain ⟨xe, ye, hx, hy, hxy⟩ := two_at HM.out.1.1 (k := k) (by rw [HM.out.1.2]; exact c)
     have hee : xe.xs.map XE.er = ye.xs.map XE.er := hxy
     obtain ⟨b, o, eb, -, hb, hcell, hmx⟩ := XL.Mem.at (HM.out.2.1.below HW.out) hx
     obtain ⟨b', o', eb', -, hb', hcell', hmy⟩ := XL.Mem.at (HM.out.2.2.below HW.out) hy
     obtain rfl := HA.out.1.symm.trans eb
     obtain rfl := HA.out.2.symm.trans eb'
     have HCA := Lib.hid (fun (wv : World) (hbv : Below wr.heap.size wr wv) => sames_any (w := wv) xe ye hee (EK.below (E := rok) hmx hbv) (EK.below (E := rok) hmy hbv))
     have hcl : ∀ j u, (rok.enc xe)[j]? = some u → wr.cell? ⟨b, o + k * 1 + j, none⟩ = some u := hcell
     have hcl' : ∀ j u, (rok.enc ye)[j]? = some u → wr.cell? ⟨b', o' + k * 1 + j, none⟩ = some u := hcell'
     have q0 := hcl 0 _ rfl
     have p0 := hcl' 0 _ rfl
     rw [Nat.add_zero] at q0 p0
     rw [Nat.mul_one] at q0 p0
     simp only [XL.val] at q0 p0
     have hwk : wrap64 ((k : Int) + 1) = ((k + 1 : Nat) : Int) := by unfold wrap64 maxLen at *; omega
     have HK2 := Lib.hid (fun (w0 : World) (hb0 : Below wr.heap.size wr w0) => show Below wr.heap.size wr w0 ∧ w0.cell? ⟨g, 6, none⟩ = some (.slice (some ⟨b, o, none⟩) n6 oc) ∧ w0.cell? ⟨h, 6, none⟩ = some (.slice (some ⟨b', o', none⟩) n6 yc) ∧ w0.cell? ⟨b, o + k, none⟩ = some (.slice xe.a xe.xs.length xe.cap) ∧ w0.cell? ⟨b', o' + k, none⟩ = some (.slice ye.a ye.xs.length ye.cap) from ⟨hb0, (hb0.cell (p := ⟨g, 6, none⟩) (Nat.lt_of_lt_of_le HS.out.1 HW.out.size)).trans z1, (hb0.cell (p := ⟨h, 6, none⟩) (Nat.lt_of_lt_of_le HS.out.2 HW.out.size)).trans z2, (hb0.cell (by exact hb)).trans q0, (hb0.cell (by exact hb')).trans p0⟩)
     clear hx hy hcell hcell' hcl hcl' hmx hmy hee hxy eb eb'
     go_wp2_with fail
     go_region_held3 (fun w0 => Below wr.heap.size wr w0 ∧ w0.cell? ⟨g, 6, none⟩ = some (.slice (some ⟨b, o, none⟩) n6 oc) ∧ w0.cell? ⟨h, 6, none⟩ = some (.slice (some ⟨b', o', none⟩) n6 yc) ∧ w0.cell? ⟨b, o + k, none⟩ = some (.slice xe.a xe.xs.length xe.cap) ∧ w0.cell? ⟨b', o' + k, none⟩ = some (.slice ye.a ye.xs.length ye.cap))
       (first | exact HK2.out _ (Below.refl _ _) | exact HK2.out _ (Below.refl _ _).drew | exact HK2.out _ hbx)
       (first | (go_at_call 26; refine (HCA.out _ (And.left (by assumption))).mono ?_; rintro e w1 ⟨rfl, hbx0⟩; have hbx : Below wr.heap.size wr w1 := clq (by assumption) hbx0))
     all_goals
      have HWN := Lib.hid (HW.out.trans (hbx.mono HW.out.size))
      go_wp2_with fail
      refine ⟨⟨k + 1, Nat.succ_le_of_lt c, by rw [hwk], HWN⟩, ?_⟩
      rw [hwk]
      simp [intOf]
      omega
   · have c2 : decide ((k : Int) < (n6 : Int)) = false := by simp; omega
     obtain rfl : k = n6 := by omega
     clear HA HM HC z2
     go_wp2_with fail
     exact HK.out _ _ _ _ _ _ _ _ _ _ _ _ _ _ _ _ _ _ _ _ _ wr HW.out
end Go.Proofs.YtofnkfjhmjecjaaGreatDoor
