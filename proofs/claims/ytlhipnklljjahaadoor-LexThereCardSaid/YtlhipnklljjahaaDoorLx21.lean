/-
  The reader's text (layer 12): contracts over the translation.
  Conditions: the reader lies in memory.
-/
import Derived.Test.YtlhipnklljjahaaDoorLx20
namespace Go.Proofs.YtlhipnklljjahaaDoor
set_option maxRecDepth 100000
open Go.RowKit Go.Joins Go.ChangeShapes Go.WideShapes
set_option linter.unusedVariables false
set_option linter.unusedSimpArgs false

def txtE (r : List Nat) : Except Nat (Tk × Nat) := match textL r with
  | none => .error 121
  | some x => if x.1.length > 200 then .error 1 else .ok (⟨4, x.1, 0, 0⟩, x.2 + 1)
theorem Rd.grown {w w1 : World} {rd b off cap : Nat} {l : List Nat} {row : Option Nat} (h : Rd w rd b off cap l) (hg : w.grownBy w1 row) (h1 : ∀ k, row = some k → k ≠ rd ∧ k ≠ b) : Rd w1 rd b off cap l := by
  have f : Frm (fun k => row = some k) w w1 := ⟨hg.os, hg.tape, hg.output, hg.size, fun k hk hf => hg.block k hk (fun e => hf e.symm)⟩
  exact h.frm f (fun e => (h1 rd e).1 rfl) (fun e => (h1 b e).2 rfl)
theorem TBox.grown {w w1 : World} {g : Nat} {k n sc : Int} {s : ByteArray} {row : Option Nat} (h : TBox w g k n sc s) (hg : w.grownBy w1 row) (h1 : ∀ k, row = some k → k ≠ g) : TBox w1 g k n sc s := (hg.block g h.lt (fun e => h1 g e.symm rfl)).trans h
/-- how long the slice in a cell is -/
def lenAt (w : World) (rd : Nat) : Nat := match w.cell? ⟨rd, 0, none⟩ with
  | some (.slice _ n _) => n
  | _ => 0
theorem Rd.len {w : World} {rd b off cap : Nat} {l : List Nat} (h : Rd w rd b off cap l) : lenAt w rd = l.length := by
  unfold lenAt
  rw [cell_of_block h.hd]
  rfl
/-- how a text's loop stands -/
structure TxS (w wr : World) (rd b : Nat) (r : List Nat) (v : Value) (acc : List Nat) (k off cap : Nat) : Prop where
  own : OwB wr (w.heap.size + 1) v acc
  rds : Rd wr rd b off cap (r.drop k)
  kl : k ≤ r.length
  al : acc.length ≤ k
  eq : textL r = (textL (r.drop k)).map (fun x => (acc ++ x.1, k + x.2))
  hd : r.drop k = [] ∨ ∃ s, r.drop k = 39 :: s
  fr : Frm (fun k => k = rd) w wr
  bx : TBox wr w.heap.size 0 0 0 ⟨#[]⟩
  ac : ∀ x ∈ acc, x < 256
set_option maxHeartbeats 4000000 in
theorem text_any {w : World} {rd b off cap : Nat} {r : List Nat} (h : Rd w rd b off cap (39 :: r)) :
    Calls Tryd.prog 21 #[.pointer (some ⟨rd, 0, none⟩)] w (TokP (txtE r) w rd b (39 :: r)) := by
  have b1 : Below w.heap.size w (w.alloc (.cells #[.int .i64 0, .string ⟨#[]⟩, .int .i64 0, .int .i64 0] 29)) := (Below.refl _ _).alloc (Nat.le_refl _) _
  have h1 := h.below b1
  have hbl : b < w.heap.size := h.is.hb (by simp)
  have hrd : rd < w.heap.size := (Array.getElem?_eq_some_iff.1 h.hd).1
  have hle32 := h.ln
  have hrl : r.length ≤ 4294967296 := by simp at hle32; omega
  have HLT := Lib.hid h.is.lt
  have HT := Lib.hid (take_any h1 1 (by simp))
  have HI := Lib.hid h1.is
  have HB := Lib.hid (show ¬ b = rd from fun e => h.ne e.symm)
  have HBel := Lib.hid b1
  have hnew : TBox (w.alloc (.cells #[.int .i64 0, .string ⟨#[]⟩, .int .i64 0, .int .i64 0] 29)) w.heap.size 0 0 0 ⟨#[]⟩ := heap_alloc_new w (.cells #[.int .i64 0, .string ⟨#[]⟩, .int .i64 0, .int .i64 0] 29)
  have HN := Lib.hid hnew
  have hsz : (w.alloc (.cells #[.int .i64 0, .string ⟨#[]⟩, .int .i64 0, .int .i64 0] 29)).heap.size = w.heap.size + 1 := by simp
  have HSZ := Lib.hid hsz
  clear h h1 b1 hnew hsz
  generalize hP : TokP _ w rd b (39 :: r) = P
  have HP := Lib.hid hP
  clear hP
  go_enter Tryd.func21, Tryd.ntmps21
  go_wp2_with fail
  generalize w.alloc (.cells #[.int .i64 0, .string ⟨#[]⟩, .int .i64 0, .int .i64 0] 29) = W1 at *
  try go_at_call 17
  refine HT.out.mono ?_
  rintro e w2 ⟨rfl, off2, cap2, r2, f2⟩
  have r2 : Rd w2 rd b off2 cap2 r := r2
  have HT3 := Lib.hid (pass_any noquote_any (enters_of Tryd.func33 (by kernel_rfl) rfl) r2)
  have F2 := Lib.hid f2
  have HI2 := Lib.hid r2.is
  have hlt2 := runL_le nqL r
  have hrun := textL_run r
  have hdn := drop_nq r
  generalize hq : runL nqL r = q at *
  clear r2 f2 hq
  go_wp2_with fail
  try go_at_call 10
  refine HT3.out.mono ?_
  rintro e w3 ⟨rfl, off3, cap3, r3, f3⟩
  have hI3 := (f3.isB HI2.out (fun _ => HB.out)).take q
  have HC := Lib.hid (clone_b q cap2 (by rw [List.length_take]; omega) hI3 (by omega))
  have R3 := Lib.hid r3
  have F3 := Lib.hid (((Frm.of_below (F := fun k => k = rd) HBel.out).trans F2.out (New.refl _ _)).trans f3 (New.refl _ _))
  have N3 := Lib.hid ((HN.out.frm F2.out (by omega)).frm f3 (by omega))
  have hs3 : w.heap.size + 1 ≤ w3.heap.size := by have := F2.out.size; have := f3.size; have := HSZ.out; omega
  clear r3 f3 hI3
  go_wp2_with fail
  try go_at_call 32
  refine HC.out.mono ?_
  rintro e w4 ⟨v4, rfl, o4, b4⟩
  have HS0 : Hid (TxS w w4 rd b r v4 (r.take q) q off3 cap3) := Lib.hid ⟨o4.le hs3, R3.out.below b4, hlt2, by rw [List.length_take]; omega, hrun, hdn, F3.out.step b4, N3.out.below b4, fun x hx => HLT.out x (List.mem_cons_of_mem _ (List.mem_of_mem_take hx))⟩
  clear o4 b4 hrun hdn
  go_wp2_with fail
  go_loopw [4] (fun v wr => ∃ acc k off cap, TxS w wr rd b r v acc k off cap) (fun _ wr => lenAt wr rd)
  case atStart => exact ⟨_, _, _, _, HS0.out⟩
  case round =>
    obtain ⟨acc, k, off5, cap5, hs⟩ := hrel
    have c0 : wr.cell? ⟨rd, 0, none⟩ = some (.slice (some ⟨b, off5, none⟩) (r.drop k).length cap5) := by rw [cell_of_block hs.rds.hd]; rfl
    have HS := Lib.hid hs
    have hcp := hs.rds.cp
    have hhd := hs.hd
    have heq := hs.eq
    have hkl := hs.kl
    have hal := hs.al
    have hbd := hs.rds.is
    clear hs
    have hkd : (r.drop k).length = r.length - k := List.length_drop
    rcases hhd with e | ⟨s, e⟩
    · have hP1 := HP.out
      unfold txtE at hP1
      rw [heq, e] at hP1
      rw [e] at c0
      have N0 := HS.out.bx
      obtain ⟨⟨e0, e1, e2, e3⟩, f0, f1, f4, f3⟩ := N0.cells
      have N0H := Lib.hid N0
      clear N0 heq
      have c0 : wr.cell? ⟨rd, 0, none⟩ = some (.slice (some ⟨b, off5, none⟩) 0 cap5) := c0
      have HX := Lib.hid (show P (.returned (.tuple #[Tkv 0 ⟨#[]⟩ 0 0, .int .i64 121])) ((((wr.setCell ⟨w.heap.size, 0, none⟩ (.int .i64 0)).setCell ⟨w.heap.size, 1, none⟩ (.string ⟨#[]⟩)).setCell ⟨w.heap.size, 2, none⟩ (.int .i64 0)).setCell ⟨w.heap.size, 3, none⟩ (.int .i64 0)) by
        obtain ⟨_, a2⟩ := Rd.boxed HS.out.fr HS.out.rds hrd hbl (.int .i64 0) (.string ⟨#[]⟩) (.int .i64 0) (.int .i64 0)
        rw [← hP1]
        exact ⟨rfl, a2⟩)
      clear hP1 hbd e
      go_wp2_with fail
      exact tok_ret Tryd.results21 (box_four N0H.out _ _ _ _) rfl rfl rfl HX.out
    · by_cases h2 : ∃ s', s = 39 :: s'
      · obtain ⟨s', rfl⟩ := h2
        have R0 := HS.out.rds
        rw [e] at R0 c0 hbd
        have d0 : wr.cell? ⟨b, off5, none⟩ = some (.int .u8 (39 : Nat)) := hbd.c 0 39 rfl
        have d1 : wr.cell? ⟨b, off5 + 1, none⟩ = some (.int .u8 (39 : Nat)) := hbd.c 1 39 rfl
        have hcapn : (39 :: 39 :: s').length ≤ cap5 := R0.cp
        have HTa := Lib.hid (take_any R0 1 (by simp))
        obtain ⟨n1, hn1⟩ : ∃ n1, (39 :: 39 :: s').length = n1 := ⟨_, rfl⟩
        have hn1p : (1 : Int) < (n1 : Int) := by rw [← hn1]; simp; omega
        have HML := Lib.hid (show lenAt wr rd = n1 by rw [R0.len, hn1])
        rw [hn1] at c0 hcapn
        obtain ⟨gv, capv, ev, isv, hgv⟩ := HS.out.own.isB HS.out.ac
        obtain ⟨na, hna⟩ : ∃ na, acc.length = na := ⟨_, rfl⟩
        rw [hna] at ev
        subst ev
        have HR := Lib.hid (show k + 2 + s'.length = r.length by have := hkd; rw [e] at this; simp at this; omega)
        have HN1 := Lib.hid hn1
        have HNA := Lib.hid hna
        have HE := Lib.hid e
        have HQ := Lib.hid heq
        clear hbd hn1 isv hcp heq e hkd R0 hna
        go_wp2_with fail
        try go_at_call 17
        refine HTa.out.mono ?_
        rintro ee w5 ⟨rfl, off6, cap6, r6, f6⟩
        have r6 : Rd w5 rd b off6 cap6 (39 :: s') := r6
        have HTb := Lib.hid (take_any r6 1 (by simp))
        have HI6 := Lib.hid (r6.is.take 1)
        have F6 := Lib.hid f6
        clear r6 f6 d0 d1 c0
        go_wp2_with fail
        try go_at_call 17
        refine HTb.out.mono ?_
        rintro ee w6 ⟨rfl, off7, cap7, r7, f7⟩
        have r7 : Rd w6 rd b off7 cap7 s' := r7
        have R7 := Lib.hid r7
        have I7 := Lib.hid (f7.isB HI6.out (fun _ => HB.out))
        have F7 := Lib.hid (F6.out.trans f7 (New.refl _ _))
        have hs7 : wr.heap.size ≤ w6.heap.size := (F6.out.trans f7 (New.refl _ _)).size
        have hsw : w.heap.size ≤ wr.heap.size := HS.out.fr.size
        have hbase : w.heap.size + 1 ≤ wr.heap.size := by have := HS.out.bx.lt; omega
        have hbase6 : w.heap.size + 1 ≤ w6.heap.size := by omega
        have O7 : OwB w6 (w.heap.size + 1) (.slice (some ⟨gv, 0, none⟩) na capv) acc := by
          have o := Frm.ownsRow F7.out HS.out.own.1 (fun g hg => by
            simp only [Value.ownBlock, Option.some.injEq] at hg
            omega)
          exact ⟨o, by simp⟩
        have HO7 := Lib.hid O7
        clear r7 f7 O7
        go_wp2_with (first | (at_builtin; refine wp_push rfl _ _ rfl (w.heap.size + 1) (.slice (some ⟨gv, 0, none⟩) na capv) acc rfl HO7.out ⟨b, off6, none⟩ 1 cap6 [39] rfl rfl (isB_news I7.out) (by have := HNA.out; omega) hbase6 ?_; intro v8 w8 own8 gr8; have HX8 := Lib.hid (And.intro own8 gr8); clear own8 gr8))
        have f8 := (HS.out.fr.trans F7.out (New.refl _ _)).grown HX8.out.2 (fun g hg => .inr (by simp only [Value.ownBlock, Option.some.injEq] at hg; omega))
        have B8 := Lib.hid ((HS.out.bx.frm F7.out (by omega)).grown HX8.out.2 (fun g hg => by simp only [Value.ownBlock, Option.some.injEq] at hg; omega))
        have r8 := R7.out.grown HX8.out.2 (fun g hg => by simp only [Value.ownBlock, Option.some.injEq] at hg; omega)
        have hs8 := HX8.out.2.size
        have HTc := Lib.hid (pass_any noquote_any (enters_of Tryd.func33 (by kernel_rfl) rfl) r8)
        have hq2 := runL_le nqL s'
        have hrun := textL_run s'
        have hdn := drop_nq s'
        have HI8 := Lib.hid r8.is
        have F8 := Lib.hid f8
        have own8 := HX8.out.1
        obtain ⟨g8, cap8, ev8, _, hg8⟩ := own8.isB (fun x hx => by
          rcases List.mem_append.1 hx with g | g
          · exact HS.out.ac x g
          · simp at g; omega)
        have hl8 : (acc ++ [39]).length = na + 1 := by rw [List.length_append, HNA.out]; rfl
        rw [hl8] at ev8
        subst ev8
        have HO8 := Lib.hid own8
        clear own8 r8 f8
        generalize hq : runL nqL s' = q2 at *
        clear hq
        go_wp2_with fail
        try go_at_call 10
        refine HTc.out.mono ?_
        rintro ee w9 ⟨rfl, off9, cap9, r9, f9⟩
        have hs9 := f9.size
        have I9 := Lib.hid ((f9.isB HI8.out (fun _ => HB.out)).take q2)
        have O9 : OwB w9 (w.heap.size + 1) (.slice (some ⟨g8, 0, none⟩) (na + 1) cap8) (acc ++ [39]) := by
          have o := Frm.ownsRow f9 HO8.out.1 (fun g hg => by
            simp only [Value.ownBlock, Option.some.injEq] at hg
            omega)
          exact ⟨o, by simp⟩
        have HO9 := Lib.hid O9
        have F9 := Lib.hid (F8.out.trans f9 (New.refl _ _))
        have R9 := Lib.hid r9
        have B9 := Lib.hid (B8.out.frm f9 (by omega))
        have hlq : (s'.take q2).length = q2 := by rw [List.length_take]; omega
        have hbase9 : w.heap.size + 1 ≤ w9.heap.size := by omega
        have hlen9 : (acc ++ [39]).length + q2 ≤ 70368744177664 := by rw [hl8]; have := HR.out; have := HNA.out; omega
        clear r9 f9 O9
        go_wp2_with (first | (at_builtin; refine wp_push rfl _ _ rfl (w.heap.size + 1) (.slice (some ⟨g8, 0, none⟩) (na + 1) cap8) (acc ++ [39]) rfl HO9.out ⟨b, off7, none⟩ q2 cap7 (s'.take q2) rfl hlq (isB_news I9.out) hlen9 hbase9 ?_; intro v10 w10 own10 gr10; have HX10 := Lib.hid (And.intro own10 gr10); clear own10 gr10))
        have hk10 : r.drop (k + 2 + q2) = s'.drop q2 := by
          rw [show k + 2 + q2 = k + (2 + q2) by omega, ← List.drop_drop, HE.out, ← List.drop_drop]
          rfl
        have r10 := R9.out.grown HX10.out.2 (fun g hg => by simp only [Value.ownBlock, Option.some.injEq] at hg; omega)
        rw [← hk10] at r10
        have f10 := F9.out.grown HX10.out.2 (fun g hg => .inr (by simp only [Value.ownBlock, Option.some.injEq] at hg; omega))
        go_roundw
        case rel =>
          refine ⟨acc ++ [39] ++ s'.take q2, k + 2 + q2, off9, cap9, HX10.out.1, r10, by have := HR.out; omega, ?_, ?_, ?_, f10, ?_, ?_⟩
          · rw [List.length_append, hl8, hlq]; have := HNA.out; omega
          · rw [HQ.out, HE.out, textL_two, hrun, hk10, Option.map_map, Option.map_map]
            congr 1
            funext x
            simp only [Function.comp, List.append_assoc, List.cons_append, List.nil_append, Prod.mk.injEq, true_and]
            omega
          · rw [hk10]; exact hdn
          · exact B9.out.grown HX10.out.2 (fun g hg => by simp only [Value.ownBlock, Option.some.injEq] at hg; omega)
          · intro x hx
            rcases List.mem_append.1 hx with g | g
            · rcases List.mem_append.1 g with g | g
              · exact HS.out.ac x g
              · simp at g; omega
            · exact I9.out.lt x g
        case measure =>
          rw [r10.len, hk10, HML.out, List.length_drop, ← HN1.out]
          simp
          omega
      · have HEND := Lib.hid (textL_end (s := s) (fun d t he hd => h2 ⟨t, by rw [he, hd]⟩))
        rw [e] at c0 hbd
        have d0 : wr.cell? ⟨b, off5, none⟩ = some (.int .u8 (39 : Nat)) := hbd.c 0 39 rfl
        obtain ⟨n1, hn1⟩ : ∃ n1, (39 :: s).length = n1 := ⟨_, rfl⟩
        have hn1p : 1 ≤ n1 := by rw [← hn1]; simp
        have htest : (n1 = 1) ∨ (1 < n1 ∧ ∃ d : Nat, wr.cell? ⟨b, off5 + 1, none⟩ = some (.int .u8 (d : Int)) ∧ ((d : Int) == 39) = false) := by
          cases s with
          | nil => left; rw [← hn1]; rfl
          | cons d t =>
            right
            refine ⟨by rw [← hn1]; simp, d, hbd.c 1 d rfl, ?_⟩
            have : ¬ d = 39 := fun hd => h2 ⟨t, by rw [hd]⟩
            exact beq_eq_false_iff_ne.2 (by omega)
        have HN1 := Lib.hid hn1
        rw [hn1] at c0
        have kz : ((n1 : Int) == 0) = false := beq_eq_false_iff_ne.2 (by omega)
        have hcap1 : n1 ≤ cap5 := by have := hcp; rw [e] at this; omega
        clear hbd hn1
        have hfin : textL r = some (acc, k + 1) := by rw [heq, e, HEND.out]; simp
        have HT := Lib.hid (take_any HS.out.rds 1 (by rw [e]; simp))
        clear heq e HN1
        have hj : (∃ (u : Unit), n1 = 1) ∨ ((1 : Int) < (n1 : Int) ∧ ∃ d : Nat, wr.cell? ⟨b, off5 + 1, none⟩ = some (.int .u8 (d : Int)) ∧ ((d : Int) == 39) = false) := by
          rcases htest with ht | ⟨ht, hh⟩
          · exact .inl ⟨(), ht⟩
          · exact .inr ⟨by omega, hh⟩
        clear htest
        rcases hj with ⟨_, rfl⟩ | ⟨ht, d, d1, d2⟩
        all_goals
          obtain ⟨gv, capv, ev, isv, hgv⟩ := HS.out.own.isB HS.out.ac
          have hst := str_own HS.out.own
          have N0 := HS.out.bx
          obtain ⟨⟨e0, e1, e2, e3⟩, f0, f1, f4, f3⟩ := N0.cells
          have N0H := Lib.hid N0
          clear N0
          have hP1 := HP.out
          unfold txtE at hP1
          rw [hfin] at hP1
          simp only at hP1
          subst ev
          obtain ⟨n, hn⟩ : ∃ n, acc.length = n := ⟨_, rfl⟩
          by_cases c200 : n > 200
          · rw [if_pos (by omega)] at hP1
            have HX := Lib.hid (show P (.returned (.tuple #[Tkv 0 ⟨#[]⟩ 0 0, .int .i64 1])) ((((wr.setCell ⟨w.heap.size, 0, none⟩ (.int .i64 0)).setCell ⟨w.heap.size, 1, none⟩ (.string ⟨#[]⟩)).setCell ⟨w.heap.size, 2, none⟩ (.int .i64 0)).setCell ⟨w.heap.size, 3, none⟩ (.int .i64 0)) by
              obtain ⟨_, a2⟩ := Rd.boxed HS.out.fr HS.out.rds hrd hbl (.int .i64 0) (.string ⟨#[]⟩) (.int .i64 0) (.int .i64 0)
              rw [← hP1]
              exact ⟨rfl, a2⟩)
            have k200 : decide ((200 : Int) < (n : Int)) = true := by simp; omega
            rw [hn] at hst ⊢
            clear hP1 hfin hn isv HT
            go_wp2_with fail
            exact tok_ret Tryd.results21 (box_four N0H.out _ _ _ _) rfl rfl rfl HX.out
          · rw [if_neg (by omega)] at hP1
            have k200 : decide ((200 : Int) < (n : Int)) = false := by simp; omega
            have HOW := Lib.hid HS.out.own
            have HNN := Lib.hid hn
            rw [hn] at hst HOW ⊢
            generalize hS : strB acc = S at hst
            have HSS := Lib.hid hS
            have HP1 := Lib.hid hP1
            clear hP1 hfin hn isv hst hS
            go_wp2_with fail
            try go_at_call 17
            refine HT.out.mono ?_
            rintro ee w5 ⟨rfl, off6, cap6, r6, f6⟩
            rw [List.drop_drop] at r6
            have N6 := N0H.out.frm f6 (by omega)
            obtain ⟨⟨e0, e1, e2, e3⟩, f0, f1, f4, f3⟩ := N6.cells
            have hst2 : (convert 27 9 (.slice (some ⟨gv, 0, none⟩) n capv)).run Tryd.prog w5 = .ok (.string S) w5 := by
              have o5 := Frm.ownsRow f6 HS.out.own.1 (fun g hg => by
                simp only [Value.ownBlock, Option.some.injEq] at hg
                omega)
              rw [← HSS.out]
              have o6 : OwB w5 (w.heap.size + 1) (.slice (some ⟨gv, 0, none⟩) acc.length capv) acc := ⟨o5, by simp⟩
              have := str_own o6
              rw [HNN.out] at this
              exact this
            have HX := Lib.hid (show P (.returned (.tuple #[Tkv 4 S 0 0, .int .i64 0])) ((((w5.setCell ⟨w.heap.size, 0, none⟩ (.int .i64 4)).setCell ⟨w.heap.size, 1, none⟩ (.string S)).setCell ⟨w.heap.size, 2, none⟩ (.int .i64 0)).setCell ⟨w.heap.size, 3, none⟩ (.int .i64 0)) by
              obtain ⟨a1, a2⟩ := Rd.boxed (HS.out.fr.trans f6 (New.refl _ _)) r6 hrd hbl (.int .i64 4) (.string S) (.int .i64 0) (.int .i64 0)
              rw [← HP1.out, ← HSS.out]
              rw [← HSS.out] at a1 a2
              exact ⟨rfl, _, _, a1, a2⟩)
            have N6H := Lib.hid N6
            clear r6 f6 N6
            go_wp2_with fail
            exact tok_ret Tryd.results21 (box_four N6H.out _ _ _ _) rfl rfl rfl HX.out

end Go.Proofs.YtlhipnklljjahaaDoor
