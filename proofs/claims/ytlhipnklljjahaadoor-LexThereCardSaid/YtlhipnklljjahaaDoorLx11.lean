/-
  The reader's word (layer 12): contracts over the translation.
  Conditions: the reader lies in memory.
-/
import Derived.Test.YtlhipnklljjahaaDoorLx10
namespace Go.Proofs.YtlhipnklljjahaaDoor
set_option maxRecDepth 100000
open Go.RowKit Go.Joins Go.ChangeShapes Go.WideShapes
set_option linter.unusedVariables false
set_option linter.unusedSimpArgs false

theorem low_b : ∀ x, x < 256 → Lib.lowerB (UInt8.ofNat x) = UInt8.ofNat (lowL x) := by
  decide
theorem iw_lt : ∀ x, x < 256 → iwL x = true → x < 128 := by
  decide
theorem runL_all (f : Nat → Bool) : ∀ (l : List Nat) (x : Nat), x ∈ l.take (runL f l) → f x = true
  | [], x, h => by simp at h
  | c :: r, x, h => by
    rw [runL_cons] at h
    cases hc : f c with
    | false => rw [hc] at h; simp at h
    | true =>
      rw [hc, if_pos rfl, List.take_succ_cons] at h
      rcases List.mem_cons.1 h with e | e
      · rw [e]; exact hc
      · exact runL_all f r x e
/-- a fresh row of bytes as a text -/
theorem fresh_str {B : Nat} {w : World} {v : Value} {lw : List UInt8} (h : Lib.FreshBytes B w v lw) : ∃ s, (convert 27 9 v).run Tryd.prog w = .ok (.string s) w ∧ s.data.toList = lw := by
  obtain ⟨g, cap, zs, rfl, hB, hl, hm, hz, hr, hb, hc, hf⟩ := h
  refine ⟨strOfNums (zs.take lw.length), run_convert_bytes_arg w 27 5 Tryd.underlying27 Tryd.underlying5 g 0 lw.length cap (zs.take lw.length) (by rw [List.length_take]; omega) (fun i hi => ?_) 9 Tryd.underlying9, ?_⟩
  · rw [Nat.zero_add, hc i (by omega)]
    rw [List.getD_eq_getElem?_getD, List.getD_eq_getElem?_getD, List.getElem?_take, if_pos hi]
  · rw [strOfNums_data]
    exact hb
def wrdE (l : List Nat) : Except Nat (Tk × Nat) := if runL iwL l > 32 then .error 122 else .ok (⟨1, (l.take (runL iwL l)).map lowL, 0, 0⟩, runL iwL l)
theorem low_str {l : List Nat} (hl : ∀ x ∈ l, x < 256) {s : ByteArray} (h : s.data.toList = Lib.toLowerA (Lib.bytesOf (l.map fun n : Nat => (n : Int)))) : s = strB (l.map lowL) := by
  have h2 : s.data.toList = (strB (l.map lowL)).data.toList := by
    rw [h, strB_data]
    unfold Lib.toLowerA Lib.bytesOf
    rw [List.map_map, List.map_map, List.map_map]
    refine List.map_congr_left fun x hx => ?_
    exact low_b x (hl x hx)
  cases s with
  | mk d =>
    cases hb : strB (l.map lowL) with
    | mk e =>
      rw [hb] at h2
      have e2 : d = e := Array.toList_inj.1 h2
      rw [e2]
set_option maxHeartbeats 2000000 in
theorem word_any {w : World} {rd b off cap : Nat} {c : Nat} {r : List Nat} (h : Rd w rd b off cap (c :: r)) (hbw : bwL c = true) :
    Calls Tryd.prog 18 #[.pointer (some ⟨rd, 0, none⟩)] w (TokP (wrdE (c :: r)) w rd b (c :: r)) := by
  have hk0 : 0 < runL iwL (c :: r) := by rw [runL_cons, if_pos (by unfold iwL; rw [hbw]; rfl)]; omega
  have hasc := fun x hx => iw_lt x (h.is.lt x (List.mem_of_mem_take hx)) (runL_all iwL (c :: r) x hx)
  have hlt : ∀ x ∈ (c :: r).take (runL iwL (c :: r)), x < 256 := fun x hx => h.is.lt x (List.mem_of_mem_take hx)
  have hkl := runL_le iwL (c :: r)
  have hne : (c :: r) ≠ [] := by simp
  generalize (c :: r) = l at *
  have b1 : Below w.heap.size w (w.alloc (.cells #[.int .i64 0, .string ⟨#[]⟩, .int .i64 0, .int .i64 0] 29)) := (Below.refl _ _).alloc (Nat.le_refl _) _
  have h1 := h.below b1
  have hbl : b < w.heap.size := h.is.hb (List.length_pos_iff.2 hne)
  have hrd : rd < w.heap.size := (Array.getElem?_eq_some_iff.1 h.hd).1
  have HT := Lib.hid (pass_any inword_any (enters_of Tryd.func27 (by kernel_rfl) rfl) h1)
  have HI := Lib.hid h1.is
  have hcap : runL iwL l ≤ 4294967296 := by have := h.ln; omega
  have HB := Lib.hid (show ¬ b = rd from fun e => h.ne e.symm)
  unfold wrdE
  generalize runL iwL l = q at *
  have hnew := heap_alloc_new w (.cells #[.int .i64 0, .string ⟨#[]⟩, .int .i64 0, .int .i64 0] 29)
  have HN := Lib.hid hnew
  have HBel := Lib.hid b1
  have hsz : w.heap.size < (w.alloc (.cells #[.int .i64 0, .string ⟨#[]⟩, .int .i64 0, .int .i64 0] 29)).heap.size := by simp
  have HZ := Lib.hid hsz
  have HA := Lib.hid hasc
  have HL := Lib.hid hlt
  have HK := Lib.hid hkl
  clear h h1 b1 hnew hsz hasc hlt hkl
  by_cases c1 : q > 32
  · rw [if_pos c1]
    generalize hP : TokP (.error 122) w rd b l = P
    have HP := Lib.hid hP
    clear hP
    go_enter Tryd.func18, Tryd.ntmps18
    go_wp2_with fail
    go_at_call 10
    refine HT.out.mono ?_
    rintro e w2 ⟨rfl, off', cap', r2, f2⟩
    have hbx : w2.heap[w.heap.size]? = some (.cells #[.int .i64 0, .string ⟨#[]⟩, .int .i64 0, .int .i64 0] 29 (0, 0)) := (f2.heap HZ.out (by omega)).trans HN.out
    have HX := Lib.hid (show P (.returned (.tuple #[Tkv 0 ⟨#[]⟩ 0 0, .int .i64 122])) ((((w2.setCell ⟨w.heap.size, 0, none⟩ (.int .i64 0)).setCell ⟨w.heap.size, 1, none⟩ (.string ⟨#[]⟩)).setCell ⟨w.heap.size, 2, none⟩ (.int .i64 0)).setCell ⟨w.heap.size, 3, none⟩ (.int .i64 0)) by
      rw [← HP.out]
      obtain ⟨x1, x2⟩ := Rd.boxed ((Frm.of_below (F := fun k => k = rd) HBel.out).trans f2 (New.refl _ _)) r2 hrd hbl (.int .i64 0) (.string ⟨#[]⟩) (.int .i64 0) (.int .i64 0)
      exact ⟨rfl, x2⟩)
    have e0 : w2.cell? ⟨w.heap.size, 0, none⟩ = some (.int .i64 0) := by rw [cell_of_block hbx]; rfl
    have e1 : w2.cell? ⟨w.heap.size, 1, none⟩ = some (.string ⟨#[]⟩) := by rw [cell_of_block hbx]; rfl
    have e2 : w2.cell? ⟨w.heap.size, 2, none⟩ = some (.int .i64 0) := by rw [cell_of_block hbx]; rfl
    have e3 : w2.cell? ⟨w.heap.size, 3, none⟩ = some (.int .i64 0) := by rw [cell_of_block hbx]; rfl
    have f0 := unfrozen_of_block hbx 0
    have f1 := unfrozen_of_block hbx 1
    have f4 := unfrozen_of_block hbx 2
    have f3 := unfrozen_of_block hbx 3
    clear r2 f2
    go_wp2_with fail
    exact tok_ret Tryd.results18 (box_four hbx _ _ _ _) rfl rfl rfl HX.out
  · rw [if_neg c1]
    generalize hP : TokP (.ok (⟨1, (l.take q).map lowL, 0, 0⟩, q)) w rd b l = P
    have HP := Lib.hid hP
    clear hP
    have k1 : (q : Int) ≤ 32 := by omega
    go_enter Tryd.func18, Tryd.ntmps18
    go_wp2_with fail
    go_at_call 10
    refine HT.out.mono ?_
    rintro e w2 ⟨rfl, off', cap', r2, f2⟩
    have hlen : (l.take q).length = q := by rw [List.length_take]; have := HK.out; omega
    have is2 := (f2.isB HI.out (fun _ => HB.out)).take q
    have HTL := Lib.hid (tl_any ⟨b, off, none⟩ q cap ((l.take q).map fun n : Nat => (n : Int)) w2 (by rw [List.length_map, hlen]) (fun x hx => by
      obtain ⟨y, hy, rfl⟩ := List.mem_map.1 hx
      have := HA.out y hy
      omega) (fun i hi => by
      have hi2 : i < (l.take q).length := by omega
      have hg := List.getElem?_eq_getElem hi2
      rw [show (⟨b, off, none⟩ : Addr).add i = ⟨b, off + i, none⟩ by unfold Addr.add; split <;> simp_all, is2.c i _ hg, List.getD_eq_getElem?_getD, List.getElem?_map, hg]
      rfl) hk0 (by omega))
    have hbx2 : w2.heap[w.heap.size]? = some (.cells #[.int .i64 0, .string ⟨#[]⟩, .int .i64 0, .int .i64 0] 29 (0, 0)) := (f2.heap HZ.out (by omega)).trans HN.out
    have R2 := Lib.hid r2
    have F2 := Lib.hid f2
    have HX2 := Lib.hid hbx2
    clear r2 f2 is2 hbx2
    go_wp2_with fail
    go_at_call 28
    refine HTL.out.mono ?_
    rintro e w3 ⟨v, rfl, fr, b3⟩
    obtain ⟨s, hcv, hs⟩ := fresh_str fr
    have es := low_str HL.out hs
    subst es
    obtain ⟨g3, cap3, _, ev, _⟩ := fr
    generalize (Lib.toLowerA (Lib.bytesOf (List.map (fun n : Nat => (n : Int)) (List.take q l)))).length = n3 at ev
    subst ev
    have hbx : w3.heap[w.heap.size]? = some (.cells #[.int .i64 0, .string ⟨#[]⟩, .int .i64 0, .int .i64 0] 29 (0, 0)) := (b3.block _ (Array.getElem?_eq_some_iff.1 HX2.out).1).trans HX2.out
    have HX := Lib.hid (show P (.returned (.tuple #[Tkv 1 (strB ((l.take q).map lowL)) 0 0, .int .i64 0])) ((((w3.setCell ⟨w.heap.size, 0, none⟩ (.int .i64 1)).setCell ⟨w.heap.size, 1, none⟩ (.string (strB ((l.take q).map lowL)))).setCell ⟨w.heap.size, 2, none⟩ (.int .i64 0)).setCell ⟨w.heap.size, 3, none⟩ (.int .i64 0)) by
      rw [← HP.out]
      obtain ⟨x1, x2⟩ := Rd.boxed (((Frm.of_below (F := fun k => k = rd) HBel.out).trans F2.out (New.refl _ _)).step b3) (R2.out.below b3) hrd hbl (.int .i64 1) (.string (strB ((l.take q).map lowL))) (.int .i64 0) (.int .i64 0)
      exact ⟨rfl, off', cap', x1, x2⟩)
    have e0 : w3.cell? ⟨w.heap.size, 0, none⟩ = some (.int .i64 0) := by rw [cell_of_block hbx]; rfl
    have e1 : w3.cell? ⟨w.heap.size, 1, none⟩ = some (.string ⟨#[]⟩) := by rw [cell_of_block hbx]; rfl
    have e2 : w3.cell? ⟨w.heap.size, 2, none⟩ = some (.int .i64 0) := by rw [cell_of_block hbx]; rfl
    have e3 : w3.cell? ⟨w.heap.size, 3, none⟩ = some (.int .i64 0) := by rw [cell_of_block hbx]; rfl
    have f0 := unfrozen_of_block hbx 0
    have f1 := unfrozen_of_block hbx 1
    have f4 := unfrozen_of_block hbx 2
    have f3 := unfrozen_of_block hbx 3
    clear b3 hs
    generalize strB (List.map lowL (List.take q l)) = S at hcv HX
    go_wp2_with fail
    exact tok_ret Tryd.results18 (box_four hbx _ _ _ _) rfl rfl rfl HX.out

end Go.Proofs.YtlhipnklljjahaaDoor
