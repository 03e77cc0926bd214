/-
  A condition taken apart (norm's appendConjuncts, Conjuncts), over the translation (layer 18).
  Conditions: the condition lies in memory, and is not greater than 4194304.
-/
import Derived.Test.YtccjeclncmogiaaNo9
namespace Go.Proofs.Ytccjeclncmogiaa
open Go.RowKit Go.Joins Go.ChangeShapes Go.WideShapes
set_option linter.unusedVariables false
set_option linter.unusedSimpArgs false

theorem NewR.trans {w w1 : World} {v v1 v2 : Value} (h : NewR w v v1) (h2 : NewR w1 v1 v2) (hs : w.heap.size ≤ w1.heap.size) : NewR w v v2 := fun k hk => by
  rcases h2 k hk with e | e
  · exact h k e
  · exact .inr (Nat.le_trans hs e)
set_option maxRecDepth 100000 in
set_option maxHeartbeats 4000000 in
theorem apc_two {N : Nat} (HI0 : ApcQ N) {K : Bl} {B : Nat} {w : World} {v : Value} {l : List XC} (ty : Int) (a : Option Addr) (cap : Nat) (x y : XC) (vk vn : Int) (vs : ByteArray) (tab col : Int) (hx : depC x.er < N) (hy : depC y.er < N)
    (hs : l.length + szC (XC.er (.mk 17 ty a cap [x, y] vk vn vs tab col)) ≤ 4194304) (hl : LsC B w v l) (hB : B ≤ w.heap.size) (hm : XC.Mem K w (.mk 17 ty a cap [x, y] vk vn vs tab col)) (hK : ∀ k, K k → k < B) :
    Calls Try.prog 19 #[v, XC.val (.mk 17 ty a cap [x, y] vk vn vs tab col)] w fun e w' => ∃ v' l', e = .returned v' ∧ LsC B w' v' (l ++ l') ∧ l'.map XC.er = conj (XC.er (.mk 17 ty a cap [x, y] vk vn vs tab col)) ∧ Frm (fun k => v.ownBlock = some k) w w' ∧ NewR w v v' ∧ l'.length ≤ szC (XC.er (.mk 17 ty a cap [x, y] vk vn vs tab col)) := by
  have hconj : conj (XC.er (.mk 17 ty a cap [x, y] vk vn vs tab col)) = conj x.er ++ conj y.er := by
    rw [XC.er, XC.erL, XC.erL, XC.erL]
    exact conj_and _ _ _ _ _ _ _ _
  have hsz : szC (XC.er (.mk 17 ty a cap [x, y] vk vn vs tab col)) = 1 + vs.size + (szC x.er + szC y.er) := by
    rw [XC.er, szC, XC.erL, XC.erL, XC.erL, szCL, szCL, szCL]; omega
  rw [hconj, hsz]
  rw [hsz] at hs
  generalize hP : (fun (e : Ending) (w' : World) => ∃ v' l', e = .returned v' ∧ LsC B w' v' (l ++ l') ∧ l'.map XC.er = conj x.er ++ conj y.er ∧ Frm (fun k => v.ownBlock = some k) w w' ∧ NewR w v v' ∧ l'.length ≤ 1 + vs.size + (szC x.er + szC y.er)) = P
  have HP := Lib.hid hP
  have b1 : Below w.heap.size w (w.alloc (.cells (cel 17 ty (.slice a 2 cap) vk vn vs tab col) 26)) := (Below.refl _ _).alloc (Nat.le_refl _) _
  have hn1 := Bx.new w (cel 17 ty (.slice a 2 cap) vk vn vs tab col) 26
  obtain ⟨wa, hwa⟩ : ∃ wa, w.alloc (.cells (cel 17 ty (.slice a 2 cap) vk vn vs tab col) 26) = wa := ⟨_, rfl⟩
  rw [hwa] at b1 hn1
  have hrow := (hm.row).below b1
  have hbd := hrow.bounds
  have hcap : 2 ≤ cap := hbd.1
  have hcm : cap ≤ maxLen := hbd.2
  obtain ⟨b, o, rfl, hkb, hb, hcx, hcy, hmx, hmy⟩ := XC.at_row hrow
  have hla := hl.below b1
  have hvl : ∀ k, v.ownBlock = some k → B ≤ k ∧ k < w.heap.size := fun k hk => ⟨(hl.own.lt hk).1, (hl.own.lt hk).2.1⟩
  have k0 : wa.cell? ⟨w.heap.size, 0, none⟩ = some (.int .i64 17) := hn1.cell rfl
  have k2 : wa.cell? ⟨w.heap.size, 2, none⟩ = some (.slice (some ⟨b, o, none⟩) 2 cap) := hn1.cell rfl
  have HX := Lib.hid (And.intro hs (And.intro b1 (And.intro hB (And.intro hvl hK))))
  have HM := Lib.hid (And.intro hmx (And.intro hmy (And.intro hx hy)))
  have HN1 := Lib.hid hn1
  have HLA := Lib.hid hla
  have HI := Lib.hid HI0
  have HBZ := Lib.hid (Below.drew (Below.refl wa.heap.size wa))
  have HCX := Lib.hid (And.intro hb (And.intro (hK b hkb) hcy))
  obtain ⟨op1, ty1, a1, cap1, args1, vk1, vn1, vs1, tab1, col1⟩ := x
  obtain ⟨op2, ty2, a2, cap2, args2, vk2, vn2, vs2, tab2, col2⟩ := y
  have q0 := hcx 0 _ rfl
  have q1 := hcx 1 _ rfl
  have q2 := hcx 2 _ rfl
  have q3 := hcx 3 _ rfl
  have q4 := hcx 4 _ rfl
  have q5 := hcx 5 _ rfl
  have q6 := hcx 6 _ rfl
  have q7 := hcx 7 _ rfl
  have p0 := hcy 0 _ rfl
  have p1 := hcy 1 _ rfl
  have p2 := hcy 2 _ rfl
  have p3 := hcy 3 _ rfl
  have p4 := hcy 4 _ rfl
  have p5 := hcy 5 _ rfl
  have p6 := hcy 6 _ rfl
  have p7 := hcy 7 _ rfl
  rw [Nat.add_zero] at q0 p0
  simp only [XC.val, List.length_cons, List.length_nil]
  clear hP b1 hn1 hm hs hl hB hconj hsz hrow hbd hkb hb hcx hcy hmx hmy hla hvl hK hx hy HI0
  go_enter Try.func19, Try.ntmps19
  go_wp2_with fail
  go_region_with (first
    | (go_at_call 19; have hzz := HLA; clear hzz; refine (HI.out _ B _ v l (.mk op1 ty1 a1 cap1 args1 vk1 vn1 vs1 tab1 col1) HM.out.2.2.1 (by have := HX.out.1; omega) (HLA.out.below HBZ.out) (Nat.le_trans HX.out.2.2.1 (Nat.le_trans HX.out.2.1.size HBZ.out.size)) (HM.out.1.below HBZ.out) HX.out.2.2.2.2).mono ?_; rintro e w3 ⟨v3, l3, rfl, hl3, he3, f3, n3, c3⟩; have HR3 := Lib.hid (And.intro hl3 (And.intro he3 (And.intro f3 (And.intro n3 c3)))); have fz : Frm (fun k => v.ownBlock = some k) wa w3 := (Frm.of_below HBZ.out).trans f3 (New.refl _ _); have HFZ := Lib.hid fz; have k2' : w3.cell? ⟨w.heap.size, 2, none⟩ = some (.slice (some ⟨b, o, none⟩) 2 cap) := (fz.cell HN1.out.lt (fun e => by have := (HX.out.2.2.2.1 _ e).2; omega) 2).trans k2; have hcy' : ∀ j u, (XC.mk op2 ty2 a2 cap2 args2 vk2 vn2 vs2 tab2 col2).enc[j]? = some u → w3.cell? ⟨b, o + 8 + j, none⟩ = some u := (fun j u hj => (fz.cell HCX.out.1 (fun e => by have := (HX.out.2.2.2.1 _ e).1; have := HCX.out.2.1; omega) _).trans (HCX.out.2.2 j u hj)); have r0 := hcy' 0 _ rfl; have r1 := hcy' 1 _ rfl; have r2 := hcy' 2 _ rfl; have r3 := hcy' 3 _ rfl; have r4 := hcy' 4 _ rfl; have r5 := hcy' 5 _ rfl; have r6 := hcy' 6 _ rfl; have r7 := hcy' 7 _ rfl; rw [Nat.add_zero] at r0; clear hl3 he3 f3 n3 c3 fz hcy' HLA)
    | (go_at_call 19; refine (HI.out _ B _ v3 (l ++ l3) (.mk op2 ty2 a2 cap2 args2 vk2 vn2 vs2 tab2 col2) HM.out.2.2.2 (by have := HX.out.1; have := HR3.out.2.2.2.2; rw [List.length_append]; omega) HR3.out.1 (Nat.le_trans HX.out.2.2.1 (Nat.le_trans HX.out.2.1.size HFZ.out.size)) (XC.Mem.frm HFZ.out (fun k hk e => by have := (HX.out.2.2.2.1 _ e).1; have := HX.out.2.2.2.2 k hk; omega) _ HM.out.2.1) HX.out.2.2.2.2).mono ?_; rintro e w4 ⟨v4, l4, rfl, hl4, he4, f4, n4, c4⟩; have HR4 := Lib.hid (And.intro hl4 (And.intro he4 (And.intro f4 (And.intro n4 c4)))); clear hl4 he4 f4 n4 c4))
  all_goals
    have HF := Lib.hid (show P (.returned v4) w4 by
      rw [← HP.out]
      have h34 := HR3.out.2.2.2.1
      have hs0 : w.heap.size ≤ wa.heap.size := HX.out.2.1.size
      have hn3 : NewR w v v3 := fun k hk => by
        rcases h34 k hk with e | e
        · exact .inl e
        · exact .inr (Nat.le_trans hs0 (Nat.le_trans HBZ.out.size e))
      have hf3 : Frm (fun k => v.ownBlock = some k) w w3 := (Frm.of_below HX.out.2.1).trans HFZ.out (New.refl _ _)
      refine ⟨v4, l3 ++ l4, rfl, by rw [← List.append_assoc]; exact HR4.out.1, by rw [List.map_append, HR3.out.2.1, HR4.out.2.1], hf3.trans HR4.out.2.2.1 (fun k hk => hn3 k hk), hn3.trans HR4.out.2.2.2.1 hf3.size, ?_⟩
      have h1 := HR3.out.2.2.2.2
      have h2 := HR4.out.2.2.2.2
      rw [List.length_append]
      omega)
    go_wp2_with fail
    refine retT (R := P) (v := v4) (w := w4) Try.results19 ?_ ?_ HF.out
    · rfl
    · rfl

end Go.Proofs.Ytccjeclncmogiaa
