/-
  Over which sources a code goes (norm's meet), over the translation (layer 18).
  Conditions: the code lies in memory.
-/
import Derived.Test.YtccjeclncmogiaaNo20
namespace Go.Proofs.Ytccjeclncmogiaa
open Go.RowKit Go.Joins Go.ChangeShapes Go.WideShapes
set_option linter.unusedVariables false
set_option linter.unusedSimpArgs false

theorem SetN.congr {w : World} {b m m' : Nat} {p q : Int → Prop} (h : SetN w b p m) (hpq : ∀ x, p x ↔ q x) (hm : m ≤ m') : SetN w b q m' := by
  obtain ⟨f, n, h1, h2, h3⟩ := h
  exact ⟨f, n, h1, fun x => (h2 x).trans (hpq x), Nat.le_trans h3 hm⟩
def MeetQ (N : Nat) : Prop := ∀ (K : Bl) (w : World) (x : XC) (b m : Nat) (p : Int → Prop), depC x.er < N → SetN w b p m → XC.Mem K w x → (∀ k, K k → k ≠ b) →
    Calls Try.prog 24 #[.map (some b), x.val] w fun e w' => e = .returned (.tuple #[]) ∧ SetN w' b (fun t => p t ∨ t ∈ tabs x.er) (m + (tabs x.er).length) ∧ Frm (fun k => k = b) w w'
set_option maxRecDepth 100000 in
set_option maxHeartbeats 4000000 in
theorem meet_q : ∀ N : Nat, MeetQ N
  | 0 => fun K w x b m p h => absurd h (by omega)
  | N + 1 => fun K w x b m p h hS hm hK => by
    obtain ⟨op, ty, a, cap, args, vk, vn, vs, tab, col⟩ := x
    have hd := dep_arg h
    have hbd := hm.row.bounds
    have HI := Lib.hid (fun (wv : World) (y : XC) (hy : y ∈ args) (p : Int → Prop) (m : Nat) (hS : SetN wv b p m) (hm : XC.Mem K wv y) => meet_q N K wv y b m p (hd y hy) hS hm hK)
    obtain ⟨n, hn⟩ : ∃ n, args.length = n := ⟨_, rfl⟩
    have htb : tabs (XC.er (.mk op ty a cap args vk vn vs tab col)) = (if op = 22 then [tab] else []) ++ tabsL (XC.erL args) := by rw [XC.er, tabs]
    rw [htb]
    generalize hP : (fun (e : Ending) (w' : World) => e = .returned (.tuple #[]) ∧ SetN w' b (fun t => p t ∨ t ∈ (if op = 22 then [tab] else []) ++ tabsL (XC.erL args)) (m + ((if op = 22 then [tab] else []) ++ tabsL (XC.erL args)).length) ∧ Frm (fun k => k = b) w w') = P
    have HP := Lib.hid hP
    have HN := Lib.hid hn
    have hnc : n ≤ cap ∧ cap ≤ maxLen := by rw [← hn]; exact hbd
    have b1 : Below w.heap.size w (w.alloc (.cells (cel op ty (.slice a n cap) vk vn vs tab col) 26)) := (Below.refl _ _).alloc (Nat.le_refl _) _
    have hn1 := Bx.new w (cel op ty (.slice a n cap) vk vn vs tab col) 26
    obtain ⟨wa, hwa⟩ : ∃ wa, w.alloc (.cells (cel op ty (.slice a n cap) vk vn vs tab col) 26) = wa := ⟨_, rfl⟩
    rw [hwa] at b1 hn1
    have HB1 := Lib.hid b1
    have HBX := Lib.hid hn1
    have HRW := Lib.hid hm.row
    have HSA := Lib.hid (hS.below b1)
    have HK := Lib.hid hK
    have HLT := Lib.hid hS.lt
    have l0 : wa.cell? ⟨w.heap.size, 0, none⟩ = some (.int .i64 op) := hn1.cell rfl
    have hc : (∃ wz p1 m1, (op = 22 ∧ (Instr.mapUpdate 48 (.map (some b)) (.int .i64 tab) (.agg #[])).run Try.prog wa = .ok () wz ∨ (op == 22) = false ∧ wz = wa) ∧ SetN wz b p1 m1 ∧ Frm (fun k => k = b) wa wz ∧ (∀ t, (p t ∨ t ∈ (if op = 22 then [tab] else []) ++ tabsL (XC.erL args)) ↔ p1 t ∨ t ∈ tabsL (XC.erL args)) ∧ m1 + (tabsL (XC.erL args)).length ≤ m + ((if op = 22 then [tab] else []) ++ tabsL (XC.erL args)).length) := by
      by_cases c : op = 22
      · obtain ⟨wz, h1, h2, h3⟩ := (hS.below b1).put tab
        refine ⟨wz, _, _, .inl ⟨c, h1⟩, h2, h3, fun t => ?_, ?_⟩
        · rw [if_pos c, List.mem_append, List.mem_singleton]
          constructor
          · rintro (h | h | h)
            · exact .inl (.inl h)
            · exact .inl (.inr h)
            · exact .inr h
          · rintro ((h | h) | h)
            · exact .inl h
            · exact .inr (.inl h)
            · exact .inr (.inr h)
        · rw [if_pos c, List.length_append, List.length_singleton]; omega
      · exact ⟨wa, p, m, .inr ⟨by simp [c], rfl⟩, hS.below b1, Frm.refl _ _, fun t => by rw [if_neg c, List.nil_append], by rw [if_neg c, List.nil_append]; exact Nat.le_refl _⟩
    obtain ⟨wz, p1, m1, hcase, hS1, fz, hpq, hm1⟩ := hc
    have hne : w.heap.size ≠ b := by have := hS.lt; omega
    have l2 : wz.cell? ⟨w.heap.size, 2, none⟩ = some (.slice a n cap) := (fz.cell hn1.lt hne 2).trans (hn1.cell rfl)
    have l6 : wa.cell? ⟨w.heap.size, 6, none⟩ = some (.int .i64 tab) := hn1.cell rfl
    have HS1 := Lib.hid hS1
    have HFZ := Lib.hid fz
    have HPQ := Lib.hid (And.intro hpq hm1)
    have HFIN := Lib.hid (fun (w' : World) (h1 : SetN w' b (fun t => p1 t ∨ t ∈ tabsL (XC.erL args)) (m1 + (tabsL (XC.erL args)).length)) (h2 : Frm (fun k => k = b) w w') => show P (.returned (.tuple #[])) w' by
      rw [← HP.out]
      exact ⟨rfl, h1.congr (fun t => (HPQ.out.1 t).symm) HPQ.out.2, h2⟩)
    have HBEL := Lib.hid ((Frm.of_below (F := fun k => k = b) b1).trans fz (New.refl _ _))
    obtain ⟨L, hL⟩ : ∃ L, XC.erL args = L := ⟨_, rfl⟩
    have HL := Lib.hid hL
    rw [hL] at HFIN
    simp only [XC.val]
    rw [hn]
    clear hP b1 hn1 hm hd hbd hn h hS hK hS1 fz hpq hm1 htb HPQ HP hL hne
    go_enter Try.func24, Try.ntmps24
    rcases hcase with ⟨rfl, hmu⟩ | ⟨hcf, rfl⟩
    all_goals
      first
      | (have HMU := Lib.hid hmu; clear hmu; go_wp2_with (refine wpMU rfl _ _ _ rfl rfl rfl rfl HMU.out ?_; clear HMU))
      | go_wp2_with fail
      go_loopw [16] (fun i wr => ∃ k : Nat, k ≤ n ∧ i = .int .i64 (k : Int) ∧ Hid (SetN wr b (fun t => p1 t ∨ t ∈ tabsL (L.take k)) (m1 + (tabsL (L.take k)).length) ∧ Frm (fun q => q = b) w wr)) (fun i _ => n - (intOf i).toNat)
      case atStart => exact ⟨0, Nat.zero_le _, rfl, Lib.hid ⟨HS1.out.congr (fun t => by rw [List.take_zero, tabsL]; simp) (by omega), HBEL.out⟩⟩
      case round =>
        obtain ⟨k, hk, rfl, HW⟩ := hrel
        by_cases c : k < n
        · have c1 : (k : Int) < (n : Int) := by omega
          obtain ⟨y, hy⟩ : ∃ y, args[k]? = some y := ⟨_, List.getElem?_eq_getElem (by rw [HN.out]; exact c)⟩
          obtain ⟨b9, o, rfl, -, hb9, hcell, hmy⟩ := XC.Row.at (XC.Mem.frm HW.out.2 (fun q hq e => HK.out q hq e) _ HRW.out) hy
          have hle : L[k]? = some y.er := by rw [← HL.out, XC.erL_map, List.getElem?_map, hy]; rfl
          have HTK := Lib.hid (tabsL_take hle)
          have HLD := Lib.hid (ld_C (x := y) hcell)
          obtain ⟨wq, hst, bq, bxq⟩ := put_C wr y
          have HST := Lib.hid hst
          have HLP := Lib.hid (ld_C (XC.at_box bxq))
          have HBQ := Lib.hid bq
          have HCA := Lib.hid (HI.out wq y (List.mem_of_getElem? hy) _ _ (HW.out.1.below bq) (hmy.below bq))
          have hwk : wrap64 ((k : Int) + 1) = ((k + 1 : Nat) : Int) := by unfold wrap64 maxLen at *; omega
          clear hy hcell hmy hle hst bq bxq
          go_wp2_with (first | (refine wpLd rfl _ rfl rfl HLD.out ?_; clear HLD) | (refine wpSt rfl _ _ rfl rfl rfl HST.out ?_; clear HST) | (refine wpLd rfl _ rfl rfl HLP.out ?_; clear HLP))
          refine HCA.out.mono ?_
          rintro e w4 ⟨rfl, hs4, f4⟩
          have HW4 : Hid (SetN w4 b (fun t => p1 t ∨ t ∈ tabsL (L.take (k + 1))) (m1 + (tabsL (L.take (k + 1))).length) ∧ Frm (fun q => q = b) w w4) := Lib.hid ⟨hs4.congr (fun t => by rw [HTK.out, List.mem_append, or_assoc]) (by rw [HTK.out, List.length_append]; omega), (HW.out.2.step HBQ.out).trans f4 (New.refl _ _)⟩
          clear hs4 f4
          go_wp2_with fail
          refine ⟨⟨k + 1, by omega, by rw [hwk], HW4⟩, ?_⟩
          rw [hwk]
          simp [intOf]
          omega
        · obtain rfl : k = n := by omega
          have c1 : decide ((k : Int) < (k : Int)) = false := by simp
          have HF := Lib.hid (show P (.returned (.tuple #[])) wr by
            have hlk : L.take k = L := List.take_of_length_le (by rw [← HL.out, XC.erL_length, HN.out]; exact Nat.le_refl _)
            have h1 := HW.out.1
            rw [hlk] at h1
            exact HFIN.out wr h1 HW.out.2)
          go_wp2_with fail
          exact bodyPost_ret (v := .tuple #[]) (by simp [results, Try.results24, go_sem]) rfl HF.out

end Go.Proofs.Ytccjeclncmogiaa
